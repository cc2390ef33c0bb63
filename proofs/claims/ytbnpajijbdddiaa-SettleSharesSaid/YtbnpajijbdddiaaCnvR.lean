/- Convert of the document. -/
import Derived.Test.YtbnpajijbdddiaaCnvP
import Derived.Test.YtbnpajijbdddiaaBigJ
import Derived.Deep.DeepCutAuto
import Derived.Deep.RegionWith
import Derived.Deep.RegionHeld3
namespace Go.Proofs.Ytbnpajijbdddiaa
open Go.RowKit
set_option linter.unusedVariables false
set_option linter.unusedSimpArgs false

set_option maxHeartbeats 4000000 in
theorem rconvert_bad (A Nu De : Int) (w : World) (hb : cnvBad A Nu De = true) :
    Calls Try.prog 12 #[.int .i64 A, .agg #[.int .i64 Nu, .int .i64 De]] w fun e w' => e = .returned (.tuple #[.int .i64 0, .int .i64 3]) ∧ Below w.heap.size w w' := by
  have hc := of_decide_eq_true hb
  have HB := hide ((Below.refl w.heap.size w).alloc (Nat.le_refl _) (.cells #[.int .i64 Nu, .int .i64 De] 36))
  clear hb
  by_cases a1 : A < 0
  · have a1' : ¬ 0 ≤ A := by omega
    clear hc
    go_enter Try.func12, Try.ntmps12
    go_wp2
    go_ret2
    exact ⟨rfl, unhide HB⟩
  have a1' : 0 ≤ A := by omega
  by_cases a2 : 999999999999 < A
  · have a2' : ¬ A ≤ 999999999999 := by omega
    clear hc
    go_enter Try.func12, Try.ntmps12
    go_wp2
    go_ret2
    exact ⟨rfl, unhide HB⟩
  have a2' : A ≤ 999999999999 := by omega
  by_cases n1 : Nu < 1
  · have n1' : ¬ 1 ≤ Nu := by omega
    clear hc
    go_enter Try.func12, Try.ntmps12
    go_wp2
    go_ret2
    exact ⟨rfl, unhide HB⟩
  have n1' : 1 ≤ Nu := by omega
  by_cases n2 : 1000000000 < Nu
  · have n2' : ¬ Nu ≤ 1000000000 := by omega
    clear hc
    go_enter Try.func12, Try.ntmps12
    go_wp2
    go_ret2
    exact ⟨rfl, unhide HB⟩
  have n2' : Nu ≤ 1000000000 := by omega
  by_cases d1 : De < 1
  · have d1' : ¬ 1 ≤ De := by omega
    clear hc
    go_enter Try.func12, Try.ntmps12
    go_wp2
    go_ret2
    exact ⟨rfl, unhide HB⟩
  have d1' : 1 ≤ De := by omega
  have d2' : ¬ De ≤ 1000000000 := by omega
  clear hc
  go_enter Try.func12, Try.ntmps12
  go_wp2
  go_ret2
  exact ⟨rfl, unhide HB⟩
theorem small3 (x K : Nat) (h : x < 79228162514264337593543950336) (hK : 3 ≤ K) : x < B32 ^ K := by
  have h1 : B32 ^ 3 ≤ B32 ^ K := Nat.pow_le_pow_right (by decide) hK
  have e : B32 ^ 3 = 79228162514264337593543950336 := by decide
  omega
theorem keepB {w w' : World} {a : Addr} {v : Value} (hb : Below w.heap.size w w') (h : w.cell? a = some v) : w'.cell? a = some v := (hb.cell (World.block_lt_of_cell? _ _ h)).trans h
theorem cell_ald {W : World} {p : Addr} {v : Value} {o : Obj} (h : W.cell? p = some v) : (W.alloc o).drew.cell? p = some v := keepB ((Below.refl W.heap.size W).alloc (Nat.le_refl _) o).drew h
theorem cell_al {W : World} {p : Addr} {v : Value} {o : Obj} (h : W.cell? p = some v) : (W.alloc o).cell? p = some v := keepB ((Below.refl W.heap.size W).alloc (Nat.le_refl _) o) h
theorem alB (w : World) (o : Obj) : Below w.heap.size w (w.alloc o) := (Below.refl w.heap.size w).alloc (Nat.le_refl _) o
theorem stepB {W z y : World} (kz : Below W.heap.size W z) (b : Below z.heap.size z y) : Below W.heap.size W y := kz.trans (b.mono kz.size)
theorem IntAt.al {w : World} {p n : Nat} {o : Obj} (h : IntAt w p n) : IntAt (w.alloc o) p n := h.below (alB w o)
theorem box_newd (w : World) : BoxAt3 (w.alloc (.cells #[.bool false, .slice none 0 0] 60)).drew w.heap.size false (.slice none 0 0) := ⟨heap_alloc_new w _, none, 0, 0, rfl⟩
theorem alS (w : World) (o : Obj) : (w.alloc o).heap.size = w.heap.size + 1 := by simp
theorem alSd (w : World) (o : Obj) : (w.alloc o).drew.heap.size = w.heap.size + 1 := by simp
theorem drS (w : World) : w.drew.heap.size = w.heap.size := rfl
abbrev boxO : Obj := .cells #[.bool false, .slice none 0 0] 60
set_option maxHeartbeats 4000000 in
theorem rconvert_good (a nu de : Nat) (w : World) (ha : (a : Int) ≤ 999999999999) (hn : (1 : Int) ≤ (nu : Int) ∧ (nu : Int) ≤ 1000000000) (hd : (1 : Int) ≤ (de : Int) ∧ (de : Int) ≤ 1000000000) :
    Calls Try.prog 12 #[.int .i64 a, .agg #[.int .i64 nu, .int .i64 de]] w fun e w' => e = .returned (if 999999999999 < cnvN a nu de then .tuple #[.int .i64 0, .int .i64 2] else .tuple #[.int .i64 (cnvN a nu de : Nat), .int .i64 0]) ∧ Below w.heap.size w w' := by
  obtain ⟨hn1, hn2⟩ := hn
  obtain ⟨hd1, hd2⟩ := hd
  have hN : a * nu ≤ 999999999999 * 1000000000 := Nat.mul_le_mul (by omega) (by omega)
  have NA := hide (fun w' => newInt_any a w' (by omega))
  have NB := hide (fun w' => newInt_any nu w' (by omega))
  have NM := hide (fun p px py w' hp hx hy h1 h2 => bigMul_any p px py a nu false (.slice none 0 0) w' hp hx hy h1 h2 (small3 a 5000 (by omega) (by decide)) (small3 nu 5000 (by omega) (by decide)))
  obtain ⟨V, hV⟩ : ∃ V : Value, V = if 999999999999 < cnvN a nu de then .tuple #[.int .i64 0, .int .i64 2] else .tuple #[.int .i64 (cnvN a nu de : Nat), .int .i64 0] := ⟨_, rfl⟩
  rw [← hV]
  have HV := hide hV
  have HAm : Hid (amtB (a : Int) = true) := hide (decide_eq_true (by omega))
  have HR := hide ((Below.refl w.heap.size w).alloc (Nat.le_refl _) (.cells #[.int .i64 (nu : Int), .int .i64 (de : Int)] 36))
  have c0 : (w.alloc (.cells #[.int .i64 (nu : Int), .int .i64 (de : Int)] 36)).cell? ⟨w.heap.size, 0, none⟩ = some (.int .i64 (nu : Int)) := by simp
  have c1 : (w.alloc (.cells #[.int .i64 (nu : Int), .int .i64 (de : Int)] 36)).cell? ⟨w.heap.size, 1, none⟩ = some (.int .i64 (de : Int)) := by simp
  have hz : w.heap.size < (w.alloc (.cells #[.int .i64 (nu : Int), .int .i64 (de : Int)] 36)).heap.size := by simp
  have HN := hide hN
  clear hV hN
  go_enter Try.func12, Try.ntmps12
  go_wp2_with fail
  refine (ramount_any (a : Int) _).mono ?_
  rintro e w1 ⟨rfl, hw1⟩
  subst hw1
  rw [unhide HAm]
  generalize w.alloc (.cells #[.int .i64 (nu : Int), .int .i64 (de : Int)] 36) = W at *
  go_wp2_with fail
  go_cut [6] (fun pv wx => ∃ px, pv = .pointer (some ⟨px, 0, none⟩) ∧ IntAt wx px (a * nu) ∧ Below W.heap.size W wx)
  case first =>
    go_region_held3 (fun w' => w'.cell? ⟨w.heap.size, 0, none⟩ = some (.int .i64 (nu : Int)))
      (first
        | exact cm
        | exact cb
        | exact ca
        | exact c0
        | exact cell_al c0
        | exact cell_ald c0
        | exact cell_al ca
        | exact cell_ald ca
        | exact cell_al cb
        | exact cell_ald cb)
      ((first
        | (go_at_call_of 27 (Value.int .i64 (a : Int)); refine (unhide NA _).mono ?_; rintro e ya ⟨rfl, ia, ba, sa⟩; (try simp only [alS, alSd, drS] at ia sa); have ca := keepB ba (a := ⟨w.heap.size, 0, none⟩) (v := .int .i64 (nu : Int)) (by first | exact cb | exact c0 | exact cell_ald c0 | exact cell_al c0 | exact cell_al cb | exact cell_ald cb); have ka : Below W.heap.size W ya := (by first | exact stepB (Below.refl _ _).drew ba | exact stepB (alB W _).drew ba | exact stepB kb ba | exact stepB (stepB kb (alB _ _)) ba))
        | (go_at_call_of 27 (Value.int .i64 (nu : Int)); refine (unhide NB _).mono ?_; rintro e yb ⟨rfl, ib, bb, sb⟩; (try simp only [alS, alSd, drS] at ib sb); have cb := keepB bb (a := ⟨w.heap.size, 0, none⟩) (v := .int .i64 (nu : Int)) (by first | exact ca | exact c0 | exact cell_ald c0 | exact cell_al c0 | exact cell_al ca | exact cell_ald ca); have kb : Below W.heap.size W yb := (by first | exact stepB (Below.refl _ _).drew bb | exact stepB (alB W _).drew bb | exact stepB ka bb | exact stepB (stepB ka (alB _ _)) bb))
        | (go_at_call 26; refine (unhide NM _ _ _ _ (by first | exact box_new _ | exact (box_new _).below bb | exact (box_new _).below ba | exact ((box_newd _).below ba).below bb | exact ((box_newd _).below bb).below ba) (by first | exact ia | exact ia.below bb | exact ia.below (stepB (alB ya _) bb) | exact (ia.below bb).al | exact ia.al) (by first | exact ib | exact ib.below ba | exact ib.below (stepB (alB yb _) ba) | exact (ib.below ba).al | exact ib.al) (by omega) (by omega)).mono ?_; rintro e ym ⟨rfl, im, bm, om, sm⟩; have km : Below W.heap.size W ym := (by first | exact kb.trans (bm _ (by omega)) | exact ka.trans (bm _ (by omega)) | exact (stepB kb (alB _ _)).trans (bm _ (kb.size)) | exact (stepB ka (alB _ _)).trans (bm _ (ka.size))); have cm := keepB km (a := ⟨w.heap.size, 0, none⟩) (v := .int .i64 (nu : Int)) c0)))
    all_goals
      go_wp2_with fail
      go_meet
      case rel => exact ⟨_, rfl, im, km⟩
  case rest =>
    obtain ⟨px, rfl, hX, hb⟩ := hcut
    have d1 : wc.cell? ⟨w.heap.size, 1, none⟩ = some (.int .i64 (de : Int)) := keepB hb c1
    have KW := hide ((unhide HR).trans (hb.mono (Nat.le_of_lt hz)))
    have HX := hide hX
    have lX := hX.lt
    have hNb := unhide HN
    obtain ⟨N, hNe⟩ : ∃ N, N = a * nu := ⟨_, rfl⟩
    rw [← hNe] at HX hNb
    obtain ⟨q, hq⟩ : ∃ q, q = N / de := ⟨_, rfl⟩
    obtain ⟨r, hr⟩ : ∃ r, r = N % de := ⟨_, rfl⟩
    obtain ⟨out, hout⟩ : ∃ out, out = cnvN a nu de := ⟨_, rfl⟩
    have dp : 0 < de := by omega
    have hcn : out = if 2 * r > de ∨ (2 * r = de ∧ q % 2 = 1) then q + 1 else q := by rw [hout]; unfold cnvN; rw [← hNe, ← hq, ← hr]
    have hqN : q ≤ N := by rw [hq]; exact Nat.div_le_self _ _
    have hrd : r < de := by rw [hr]; exact Nat.mod_lt _ dp
    have hqd : q * de + r = N := by rw [hq, hr, Nat.mul_comm]; exact Nat.div_add_mod N de
    rw [← hout] at HV
    have F := hide (And.intro hcn (And.intro hqN (And.intro hrd (And.intro hqd hNb))))
    have HQE := hide hq
    clear c0 c1 hb hX NA NB NM HN HR hNb hNe hr hout hcn hqN hrd hqd hq hz HAm
    go_wp2_with fail
    refine (newInt_any de _ (by omega)).mono ?_
    rintro e x1 ⟨rfl, hD, b1, s1⟩
    have HX1 := hide ((unhide HX).below b1)
    have K1 := hide ((unhide KW).trans (b1.mono (unhide KW).size))
    have HD1 := hide hD
    obtain ⟨pd, hpd⟩ : ∃ pd, pd = wc.heap.size := ⟨_, rfl⟩
    rw [← hpd] at HD1 s1 lX
    rw [← hpd]
    clear b1 hD HX KW d1 hpd
    go_wp2_with fail
    refine (bigDiv_any x1.heap.size px pd N de false (.slice none 0 0) _ (box_new x1) (unhide HX1).al (unhide HD1).al (by omega) (by omega) (small3 N 10000 (by have := unhide F; omega) (by decide)) (by omega) (by omega)).mono ?_
    rintro e x2 ⟨rfl, hQ, b2, o2, s2⟩
    have k2 : Below x1.heap.size x1 x2 := (alB x1 _).trans (b2 _ (Nat.le_refl _))
    rw [← unhide HQE] at hQ
    have HX2 := hide ((unhide HX1).below k2)
    have HD2 := hide ((unhide HD1).below k2)
    have K2 := hide ((unhide K1).trans (k2.mono (unhide K1).size))
    have HQ2 := hide hQ
    rw [alS] at s2
    obtain ⟨pq, hpq⟩ : ∃ pq, pq = x1.heap.size := ⟨_, rfl⟩
    rw [← hpq] at HQ2 s1 s2
    rw [← hpq]
    have KWQ : Hid (w.heap.size ≤ pq) := hide (by rw [hpq]; exact (unhide K1).size)
    clear b2 o2 k2 hQ HX1 HD1 HQE hpq K1
    go_wp2_with fail
    refine (bigMul_any (x2.heap.size + 1) pq pd q de false (.slice none 0 0) _ ?_ (unhide HQ2).al.al (unhide HD2).al.al (by omega) (by omega) (small3 q 5000 (by have := unhide F; omega) (by decide)) (small3 de 5000 (by omega) (by decide))).mono ?_
    · have h := box_new (x2.alloc (.cells #[.bool false, .slice none 0 0] 60))
      rw [alS] at h
      exact h
    rintro e x3 ⟨rfl, hP, b3, o3, s3⟩
    have k3 : Below x2.heap.size x2 x3 := (stepB (alB x2 _) (alB _ _)).trans (b3 _ (Nat.le_succ _))
    have bx : BoxAt3 x3 x2.heap.size false (.slice none 0 0) := ⟨(o3 x2.heap.size (by rw [alS, alS]; omega) (by omega)).trans ((box_new x2).below (alB _ _)).1, none, 0, 0, rfl⟩
    have HX3 := hide ((unhide HX2).below k3)
    have N4 := hide (bigSubA_any x2.heap.size px (x2.heap.size + 1) N (q * de) false (.slice none 0 0) x3 bx (unhide HX3) hP (by omega) (by omega) (small3 N 10000 (by have := unhide F; omega) (by decide)) (small3 (q * de) 10000 (by have := unhide F; omega) (by decide)) (by have := unhide F; omega))
    rw [show N - q * de = r by have := unhide F; omega] at N4
    have K3 := hide k3
    clear hP b3 o3 bx k3 HX3 HX2
    go_wp2_with fail
    refine (unhide N4).mono ?_
    rintro e x4 ⟨rfl, hR, b4, o4, s4⟩
    have k4 : Below x2.heap.size x2 x4 := (unhide K3).trans (b4 _ (Nat.le_refl _))
    have HD4 := hide ((unhide HD2).below k4)
    have HQ4 := hide ((unhide HQ2).below k4)
    have HR4 := hide hR
    have K4 := hide ((unhide K2).trans (k4.mono (unhide K2).size))
    have s5 : x2.heap.size < x4.heap.size := by rw [alS, alS] at s3; omega
    obtain ⟨pr, hpr⟩ : ∃ pr, pr = x2.heap.size := ⟨_, rfl⟩
    rw [← hpr] at HR4 s2 s5
    rw [← hpr]
    clear b4 o4 hR k4 N4 K3 K2 HD2 HQ2 s3 s4 hpr
    go_wp2_with fail
    refine (bigSubA_any x4.heap.size pd pr de r false (.slice none 0 0) _ (box_new x4) (unhide HD4).al (unhide HR4).al (by omega) (by omega) (small3 de 10000 (by omega) (by decide)) (small3 r 10000 (by have := unhide F; omega) (by decide)) (by have := unhide F; omega)).mono ?_
    rintro e x5 ⟨rfl, hS, b5, o5, s6⟩
    have k5 : Below x4.heap.size x4 x5 := (alB x4 _).trans (b5 _ (Nat.le_refl _))
    have HR5 := hide ((unhide HR4).below k5)
    have HQ5 := hide ((unhide HQ4).below k5)
    have K5 := hide ((unhide K4).trans (k5.mono (unhide K4).size))
    have HS5 := hide hS
    obtain ⟨ps, hps⟩ : ∃ ps, ps = x4.heap.size := ⟨_, rfl⟩
    rw [← hps] at HS5
    rw [← hps]
    clear b5 o5 hS k5 HR4 HQ4 HD4 K4 s6 s5 hps
    go_wp2_with fail
    refine (bigCmp_any pr ps r (de - r) x5 (unhide HR5) (unhide HS5) (small3 r 10000 (by have := unhide F; omega) (by decide)) (small3 (de - r) 10000 (by omega) (by decide))).mono ?_
    rintro e x6 ⟨rfl, b6⟩
    have HQ6 := hide ((unhide HQ5).below b6)
    have K6 := hide ((unhide K5).trans (b6.mono (unhide K5).size))
    clear b6 HQ5 HR5 HS5 K5
    have hcn := (unhide F).1
    have BQ := hide (fun w' (h : IntAt w' pq q) => bit0_any pq q w' h)
    by_cases c1 : 2 * r > de
    · have HOE : Hid (out = q + 1) := hide (by rw [hcn, if_pos (.inl c1)])
      rw [show ordI r (de - r) = 1 by unfold ordI; rw [if_neg (by omega), if_pos (by omega)]]
      clear hcn c1
      go_wp2_with fail
      refine (newInt_any 1 _ (by decide)).mono ?_
      rintro e y6 ⟨rfl, hO, e6, t6⟩
      have K7 := hide ((unhide K6).trans (e6.mono (unhide K6).size))
      have N7 := hide (addOwn_any pq x6.heap.size q 1 y6 ((unhide HQ6).below e6) hO (by have := (unhide HQ6).lt; omega) (small3 q 10000 (by have := unhide F; omega) (by decide)) (small3 1 10000 (by decide) (by decide)))
      clear hO e6 t6
      go_wp2_with fail
      refine (unhide N7).mono ?_
      rintro e x8 ⟨rfl, hA, e7, o7, t7⟩
      have K8 := hide ((unhide K7).trans (e7 _ (unhide KWQ)))
      have HQ8 : Hid (IntAt x8 pq out) := hide (by rw [unhide HOE]; exact hA)
      clear hA e7 o7 t7 N7 K7 HQ6 K6
      have oB : out ≤ 1000000000000000000001 := by have := unhide F; rw [unhide HOE]; omega
      go_wp2_with fail
      refine (newInt_any 999999999999 _ (by decide)).mono ?_
      rintro e y8 ⟨rfl, hM, e8, t8⟩
      have HQ9 := hide ((unhide HQ8).below e8)
      have K9 := hide ((unhide K8).trans (e8.mono (unhide K8).size))
      have N9 := hide (bigCmp_any pq x8.heap.size out 999999999999 y8 (unhide HQ9) hM (small3 out 10000 (by omega) (by decide)) (small3 999999999999 10000 (by decide) (by decide)))
      clear hM e8 t8
      by_cases g : 999999999999 < out
      · have HG := hide g
        rw [show ordI out 999999999999 = 1 by unfold ordI; rw [if_neg (by omega), if_pos g]] at N9
        clear g
        go_wp2_with fail
        refine (unhide N9).mono ?_
        rintro e z1 ⟨rfl, e9⟩
        have K10 := hide ((unhide K9).trans (e9.mono (unhide K9).size))
        clear e9
        go_wp2
        go_ret2
        exact ⟨by rw [unhide HV, if_pos (unhide HG)]; rfl, unhide K10⟩
      · have HG := hide g
        obtain ⟨oo, hoo, hoo2⟩ : ∃ oo : Int, ordI out 999999999999 = oo ∧ oo ≤ 0 := ⟨_, rfl, by unfold ordI; rw [if_neg g]; split <;> decide⟩
        rw [hoo] at N9
        have hoo3 : ¬ 0 < oo := by omega
        have N10 := hide (fun w' (h : IntAt w' pq out) => int64_any pq out w' h (by omega))
        clear g hoo
        go_wp2_with fail
        refine (unhide N9).mono ?_
        rintro e z1 ⟨rfl, e9⟩
        have K10 := hide ((unhide K9).trans (e9.mono (unhide K9).size))
        have HQ10 := hide ((unhide HQ9).below e9)
        clear e9
        go_wp2_with fail
        refine (unhide N10 _ (unhide HQ10)).mono ?_
        rintro e z2 ⟨rfl, hz2⟩
        subst hz2
        go_wp2
        go_ret2
        exact ⟨by rw [unhide HV, if_neg (unhide HG)]; rfl, unhide K10⟩
    · by_cases c2 : 2 * r = de
      · rw [show ordI r (de - r) = 0 by unfold ordI; rw [if_neg (by omega), if_neg (by omega)]]
        go_wp2_with fail
        refine (unhide BQ _ (unhide HQ6)).mono ?_
        rintro e y5 ⟨rfl, hy5⟩
        rw [hy5]
        clear hy5 y5
        by_cases c3 : q % 2 = 1
        · have HOE : Hid (out = q + 1) := hide (by rw [hcn, if_pos (.inr ⟨c2, c3⟩)])
          rw [c3]
          clear hcn c1 c2 c3
          go_wp2_with fail
          refine (newInt_any 1 _ (by decide)).mono ?_
          rintro e y6 ⟨rfl, hO, e6, t6⟩
          have K7 := hide ((unhide K6).trans (e6.mono (unhide K6).size))
          have N7 := hide (addOwn_any pq x6.heap.size q 1 y6 ((unhide HQ6).below e6) hO (by have := (unhide HQ6).lt; omega) (small3 q 10000 (by have := unhide F; omega) (by decide)) (small3 1 10000 (by decide) (by decide)))
          clear hO e6 t6
          go_wp2_with fail
          refine (unhide N7).mono ?_
          rintro e x8 ⟨rfl, hA, e7, o7, t7⟩
          have K8 := hide ((unhide K7).trans (e7 _ (unhide KWQ)))
          have HQ8 : Hid (IntAt x8 pq out) := hide (by rw [unhide HOE]; exact hA)
          clear hA e7 o7 t7 N7 K7 HQ6 K6
          have oB : out ≤ 1000000000000000000001 := by have := unhide F; rw [unhide HOE]; omega
          go_wp2_with fail
          refine (newInt_any 999999999999 _ (by decide)).mono ?_
          rintro e y8 ⟨rfl, hM, e8, t8⟩
          have HQ9 := hide ((unhide HQ8).below e8)
          have K9 := hide ((unhide K8).trans (e8.mono (unhide K8).size))
          have N9 := hide (bigCmp_any pq x8.heap.size out 999999999999 y8 (unhide HQ9) hM (small3 out 10000 (by omega) (by decide)) (small3 999999999999 10000 (by decide) (by decide)))
          clear hM e8 t8
          by_cases g : 999999999999 < out
          · have HG := hide g
            rw [show ordI out 999999999999 = 1 by unfold ordI; rw [if_neg (by omega), if_pos g]] at N9
            clear g
            go_wp2_with fail
            refine (unhide N9).mono ?_
            rintro e z1 ⟨rfl, e9⟩
            have K10 := hide ((unhide K9).trans (e9.mono (unhide K9).size))
            clear e9
            go_wp2
            go_ret2
            exact ⟨by rw [unhide HV, if_pos (unhide HG)]; rfl, unhide K10⟩
          · have HG := hide g
            obtain ⟨oo, hoo, hoo2⟩ : ∃ oo : Int, ordI out 999999999999 = oo ∧ oo ≤ 0 := ⟨_, rfl, by unfold ordI; rw [if_neg g]; split <;> decide⟩
            rw [hoo] at N9
            have hoo3 : ¬ 0 < oo := by omega
            have N10 := hide (fun w' (h : IntAt w' pq out) => int64_any pq out w' h (by omega))
            clear g hoo
            go_wp2_with fail
            refine (unhide N9).mono ?_
            rintro e z1 ⟨rfl, e9⟩
            have K10 := hide ((unhide K9).trans (e9.mono (unhide K9).size))
            have HQ10 := hide ((unhide HQ9).below e9)
            clear e9
            go_wp2_with fail
            refine (unhide N10 _ (unhide HQ10)).mono ?_
            rintro e z2 ⟨rfl, hz2⟩
            subst hz2
            go_wp2
            go_ret2
            exact ⟨by rw [unhide HV, if_neg (unhide HG)]; rfl, unhide K10⟩
        · have HOE : Hid (out = q) := hide (by rw [hcn, if_neg (by omega)])
          rw [show q % 2 = 0 by omega]
          clear hcn c1 c2 c3
          have HQ8 : Hid (IntAt x6 pq out) := hide (by rw [unhide HOE]; exact unhide HQ6)
          have oB : out ≤ 1000000000000000000001 := by have := unhide F; rw [unhide HOE]; omega
          go_wp2_with fail
          refine (newInt_any 999999999999 _ (by decide)).mono ?_
          rintro e y8 ⟨rfl, hM, e8, t8⟩
          have HQ9 := hide ((unhide HQ8).below e8)
          have K9 := hide ((unhide K6).trans (e8.mono (unhide K6).size))
          have N9 := hide (bigCmp_any pq x6.heap.size out 999999999999 y8 (unhide HQ9) hM (small3 out 10000 (by omega) (by decide)) (small3 999999999999 10000 (by decide) (by decide)))
          clear hM e8 t8
          by_cases g : 999999999999 < out
          · have HG := hide g
            rw [show ordI out 999999999999 = 1 by unfold ordI; rw [if_neg (by omega), if_pos g]] at N9
            clear g
            go_wp2_with fail
            refine (unhide N9).mono ?_
            rintro e z1 ⟨rfl, e9⟩
            have K10 := hide ((unhide K9).trans (e9.mono (unhide K9).size))
            clear e9
            go_wp2
            go_ret2
            exact ⟨by rw [unhide HV, if_pos (unhide HG)]; rfl, unhide K10⟩
          · have HG := hide g
            obtain ⟨oo, hoo, hoo2⟩ : ∃ oo : Int, ordI out 999999999999 = oo ∧ oo ≤ 0 := ⟨_, rfl, by unfold ordI; rw [if_neg g]; split <;> decide⟩
            rw [hoo] at N9
            have hoo3 : ¬ 0 < oo := by omega
            have N10 := hide (fun w' (h : IntAt w' pq out) => int64_any pq out w' h (by omega))
            clear g hoo
            go_wp2_with fail
            refine (unhide N9).mono ?_
            rintro e z1 ⟨rfl, e9⟩
            have K10 := hide ((unhide K9).trans (e9.mono (unhide K9).size))
            have HQ10 := hide ((unhide HQ9).below e9)
            clear e9
            go_wp2_with fail
            refine (unhide N10 _ (unhide HQ10)).mono ?_
            rintro e z2 ⟨rfl, hz2⟩
            subst hz2
            go_wp2
            go_ret2
            exact ⟨by rw [unhide HV, if_neg (unhide HG)]; rfl, unhide K10⟩
      · have HOE : Hid (out = q) := hide (by rw [hcn, if_neg (by omega)])
        rw [show ordI r (de - r) = -1 by unfold ordI; rw [if_pos (by have := unhide F; omega)]]
        clear hcn c1 c2
        have HQ8 : Hid (IntAt x6 pq out) := hide (by rw [unhide HOE]; exact unhide HQ6)
        have oB : out ≤ 1000000000000000000001 := by have := unhide F; rw [unhide HOE]; omega
        go_wp2_with fail
        refine (newInt_any 999999999999 _ (by decide)).mono ?_
        rintro e y8 ⟨rfl, hM, e8, t8⟩
        have HQ9 := hide ((unhide HQ8).below e8)
        have K9 := hide ((unhide K6).trans (e8.mono (unhide K6).size))
        have N9 := hide (bigCmp_any pq x6.heap.size out 999999999999 y8 (unhide HQ9) hM (small3 out 10000 (by omega) (by decide)) (small3 999999999999 10000 (by decide) (by decide)))
        clear hM e8 t8
        by_cases g : 999999999999 < out
        · have HG := hide g
          rw [show ordI out 999999999999 = 1 by unfold ordI; rw [if_neg (by omega), if_pos g]] at N9
          clear g
          go_wp2_with fail
          refine (unhide N9).mono ?_
          rintro e z1 ⟨rfl, e9⟩
          have K10 := hide ((unhide K9).trans (e9.mono (unhide K9).size))
          clear e9
          go_wp2
          go_ret2
          exact ⟨by rw [unhide HV, if_pos (unhide HG)]; rfl, unhide K10⟩
        · have HG := hide g
          obtain ⟨oo, hoo, hoo2⟩ : ∃ oo : Int, ordI out 999999999999 = oo ∧ oo ≤ 0 := ⟨_, rfl, by unfold ordI; rw [if_neg g]; split <;> decide⟩
          rw [hoo] at N9
          have hoo3 : ¬ 0 < oo := by omega
          have N10 := hide (fun w' (h : IntAt w' pq out) => int64_any pq out w' h (by omega))
          clear g hoo
          go_wp2_with fail
          refine (unhide N9).mono ?_
          rintro e z1 ⟨rfl, e9⟩
          have K10 := hide ((unhide K9).trans (e9.mono (unhide K9).size))
          have HQ10 := hide ((unhide HQ9).below e9)
          clear e9
          go_wp2_with fail
          refine (unhide N10 _ (unhide HQ10)).mono ?_
          rintro e z2 ⟨rfl, hz2⟩
          subst hz2
          go_wp2
          go_ret2
          exact ⟨by rw [unhide HV, if_neg (unhide HG)]; rfl, unhide K10⟩
theorem rconvert_any (A Nu De : Int) (w : World) :
    Calls Try.prog 12 #[.int .i64 A, .agg #[.int .i64 Nu, .int .i64 De]] w fun e w' => e = .returned (.tuple #[.int .i64 (cnvV A Nu De), .int .i64 (cnvE A Nu De)]) ∧ Below w.heap.size w w' := by
  cases hb : cnvBad A Nu De with
  | true =>
    have he : cnvE A Nu De = 3 := by unfold cnvE; rw [hb]; rfl
    have hv : cnvV A Nu De = 0 := by unfold cnvV; rw [he, if_neg (by decide)]
    rw [he, hv]
    exact rconvert_bad A Nu De w hb
  | false =>
    have hc := of_decide_eq_false hb
    obtain ⟨a, ha⟩ : ∃ a : Nat, A = (a : Int) := ⟨A.toNat, by omega⟩
    obtain ⟨nu, hnu⟩ : ∃ a : Nat, Nu = (a : Int) := ⟨Nu.toNat, by omega⟩
    obtain ⟨de, hde⟩ : ∃ a : Nat, De = (a : Int) := ⟨De.toNat, by omega⟩
    subst ha hnu hde
    have h := rconvert_good a nu de w (by omega) (by omega) (by omega)
    refine h.mono ?_
    rintro e w' ⟨rfl, hbw⟩
    refine ⟨?_, hbw⟩
    unfold cnvV cnvE
    rw [hb]
    simp only [cond_false, Int.toNat_natCast]
    by_cases ho : 999999999999 < cnvN a nu de
    · rw [if_pos ho, if_pos ho, if_neg (by decide)]
    · rw [if_neg ho, if_neg ho, if_pos rfl]
end Go.Proofs.Ytbnpajijbdddiaa
