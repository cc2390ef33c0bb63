/- A secret's modulus and D, by the document's own: Own. -/
import Derived.Test.YtajkbkljonejnaaGreatDoorM24
import Derived.Test.YtajkbkljonejnaaGreatDoorM27
import Derived.Test.YtajkbkljonejnaaGreatDoorM28
import Derived.Test.YtajkbkljonejnaaGreatDoorM30
import Derived.Test.YtajkbkljonejnaaGreatDoorM32
import Derived.Deep.DeepCutAuto
import Derived.Deep.RegionHeld3
import Derived.Test.YtajkbkljonejnaaGreatDoorM00
import Derived.Deep.QuietTactic
import Derived.BigQuiet
import Derived.Lib.Strings
namespace Go.Proofs.YtajkbkljonejnaaGreatDoor
open Go.RowKit
set_option linter.unusedVariables false
set_option linter.unusedSimpArgs false
set_option maxRecDepth 100000
def secD (p q : ByteArray) : Nat := ((valN p.data.toList - 1) * (valN q.data.toList - 1) * (3 - (valN p.data.toList - 1) * (valN q.data.toList - 1) % 3) + 1) / 3
inductive OwnPost (p q : ByteArray) (e : Ending) (w : World) : Prop where
  | bad (h : secE p q ≠ 0) (he : e = .returned (.tuple #[.string ⟨#[]⟩, .pointer none, .int .i64 (secE p q)]))
  | good (g : Nat) (h : secE p q = 0) (he : e = .returned (.tuple #[.string (secM p q), .pointer (some ⟨g, 0, none⟩), .int .i64 0])) (hi : IntAt w g (secD p q))
theorem isLen_lenB {n L : Nat} (h : IsLen n L) : L = lenBN n := by
  obtain ⟨h1, h2, h3⟩ := h
  unfold lenBN
  by_cases h0 : n = 0
  · rw [if_pos h0]; exact h2 h0
  · rw [if_neg h0]
    obtain ⟨h4, h5⟩ := h3 h0
    have : n.log2 = L - 1 := (Nat.log2_eq_iff h0).2 ⟨h5, by rw [Nat.sub_add_cancel h4]; exact h1⟩
    omega
theorem head_at (s : ByteArray) (h : 0 < s.size) : ∀ h', ((s[0]'h').toNat : Int) = (((s.data.toList.headD 0).toNat : Nat) : Int) := by
  intro h'
  congr 2
  have hl : s.data.toList.length = s.size := by simp
  cases hh : s.data.toList with
  | nil => rw [hh] at hl; simp at hl; omega
  | cons a t =>
    have : s[0] = a := by
      show s.data[0] = a
      rw [← Array.getElem_toList]
      simp [hh]
    rw [this]; rfl
theorem fac_pos {s : ByteArray} (h : isFacB s = true) : 1 ≤ s.size ∧ s.size ≤ 96 ∧ 1 ≤ valN s.data.toList := by
  unfold isFacB at h
  simp only [Bool.and_eq_true, decide_eq_true_eq] at h
  refine ⟨h.1.1, h.1.2, ?_⟩
  have hl : s.data.toList.length = s.size := by simp
  cases hh : s.data.toList with
  | nil => rw [hh] at hl; simp at hl; omega
  | cons a t =>
    rw [hh] at h
    have h2 : ¬ a.toNat = 0 := h.2
    rw [valN_consN]
    have := Nat.mul_le_mul (Nat.one_le_iff_ne_zero.2 h2) (Nat.one_le_iff_ne_zero.2 (Nat.ne_of_gt (Nat.pow_pos (n := t.length) (show 0 < 256 by decide))))
    omega
theorem valN_96 (s : ByteArray) (h : s.size ≤ 96) : valN s.data.toList < B32 ^ 24 := valN_small _ 24 (by have : s.data.toList.length = s.size := by simp
                                                                                                         omega)
theorem fac_cases (x : ByteArray) : (isFacB x = false ∧ (x.size = 0 ∨ (0 < x.size ∧ 96 < x.size) ∨ (0 < x.size ∧ x.size ≤ 96 ∧ (x.data.toList.headD 0).toNat = 0))) ∨ (isFacB x = true ∧ 0 < x.size ∧ x.size ≤ 96 ∧ (x.data.toList.headD 0).toNat ≠ 0) := by
  unfold isFacB
  by_cases h1 : 1 ≤ x.size
  · by_cases h2 : x.size ≤ 96
    · by_cases h3 : (x.data.toList.headD 0).toNat = 0
      · exact .inl ⟨by rw [h3]; simp, .inr (.inr ⟨h1, h2, h3⟩)⟩
      · exact .inr ⟨by rw [decide_eq_true h1, decide_eq_true h2, decide_eq_true h3]; rfl, h1, h2, h3⟩
    · exact .inl ⟨by rw [decide_eq_false h2]; simp, .inr (.inl ⟨h1, by omega⟩)⟩
  · exact .inl ⟨by rw [decide_eq_false h1]; rfl, .inl (by omega)⟩
theorem secE_form {p q : ByteArray} (h : (isFacB p && isFacB q) = false) : secE p q = 1 := by unfold secE; rw [h]; rfl
theorem secE_mod {p q : ByteArray} (h : isModB (secT (valN p.data.toList) (valN q.data.toList)) = false) : secE p q = 1 := by
  unfold secE; rw [h]; cases (isFacB p && isFacB q) <;> rfl
theorem secE_good {p q : ByteArray} (h : (isFacB p && isFacB q) = true) (h2 : isModB (secT (valN p.data.toList) (valN q.data.toList)) = true) : secE p q = if (valN p.data.toList - 1) * (valN q.data.toList - 1) % 3 = 0 then 5 else 0 := by
  unfold secE; rw [h, h2]; rfl
theorem yconv {w : World} {g k : Nat} {L : List Int} (h : YRow w g L) (hl : L.length = k) : (convert 55 9 (.slice (some ⟨g, 0, none⟩) k k)).run Tryz.prog w = .ok (.string (strOfNums L)) w :=
  run_convert_bytes_arg (P := Tryz.prog) _ 55 5 Tryz.underlying55 Tryz.underlying5 g 0 k k L hl (fun i hi => by
    have hi' : i < L.length := by omega
    rw [cell_of_row _ _ _ _ _ _ h]
    simp [List.getElem?_eq_getElem hi']) 9 Tryz.underlying9
theorem lt_up {x j : Nat} (h : x < B32 ^ j) (K : Nat) (hj : j ≤ K) : x < B32 ^ K := Nat.lt_of_lt_of_le h (B32_mono hj)
theorem boxO_below (w : World) : Below w.heap.size w (w.alloc (.cells #[.bool false, .slice none 0 0] 109)) := (Below.refl _ _).alloc (Nat.le_refl _) _
theorem secT_22 {a b : Nat} (h : isModB (secT a b) = true) : ¬ (a - 1) * (b - 1) = 1 := by
  intro e
  have h1 := Nat.eq_one_of_mul_eq_one_right e
  have h2 := Nat.eq_one_of_mul_eq_one_left e
  have ha : a = 2 := by omega
  have hb : b = 2 := by omega
  subst ha hb
  unfold isModB at h
  simp only [Bool.and_eq_true, decide_eq_true_eq] at h
  have h3 := h.1.1.1
  unfold secT at h3
  rw [strOfNums_size, bigL_length] at h3
  have : lenBN (2 * 2) = 3 := by decide
  rw [this] at h3
  omega
theorem BoxAt3.other {w w' : World} {p : Nat} {b : Bool} {v : Value} (h : BoxAt3 w p b v) (hh : w'.heap[p]? = w.heap[p]?) : BoxAt3 w' p b v := ⟨hh.trans h.1, h.2⟩
abbrev boxI : Obj := .cells #[.bool false, .slice none 0 0] 109
theorem d_of {N k : Nat} (h : (1 + N * k) % 3 = 0) (hk : k = 1 ∨ k = 2) : ¬ N % 3 = 0 ∧ (N * (3 - N % 3) + 1) / 3 = (1 + N * k) / 3 := by
  rcases hk with rfl | rfl
  · have : N % 3 = 2 := by omega
    rw [this]
    exact ⟨by decide, by rw [Nat.add_comm]⟩
  · have : N % 3 = 1 := by omega
    rw [this]
    exact ⟨by decide, by rw [Nat.add_comm]⟩
theorem none_third {N : Nat} (h1 : ¬ (1 + N * 1) % 3 = 0) (h2 : ¬ (1 + N * 2) % 3 = 0) : N % 3 = 0 := by
  have h3 := Nat.mod_lt N (show 0 < 3 by decide)
  rcases (show N % 3 = 0 ∨ N % 3 = 1 ∨ N % 3 = 2 by omega) with h | h | h
  · exact h
  · exact absurd (show (1 + N * 2) % 3 = 0 by omega) h2
  · exact absurd (show (1 + N * 1) % 3 = 0 by omega) h1
set_option maxHeartbeats 4000000 in
theorem rown_any (p q : ByteArray) (w : World) :
    Calls Tryz.prog 22 #[.agg #[.string p, .string q]] w fun e w' => OwnPost p q e w' ∧ Below w.heap.size w w' := by
  obtain ⟨W1, hW1⟩ : ∃ W1, W1 = w.alloc (.cells #[.string p, .string q] 23) := ⟨_, rfl⟩
  have hB1 : Below w.heap.size w W1 := by rw [hW1]; exact (Below.refl _ _).alloc (Nat.le_refl _) _
  have hX1 : W1.heap[w.heap.size]? = some (.cells #[.string p, .string q] 23 (0, 0)) := by rw [hW1]; exact heap_alloc_new _ _
  have hl1 : w.heap.size < W1.heap.size := by rw [hW1]; simp
  obtain ⟨W2, hW2⟩ : ∃ W2, W2 = W1.alloc (.cells #[.string p, .string q] 9) := ⟨_, rfl⟩
  have hB2 : Below W1.heap.size W1 W2 := by rw [hW2]; exact (Below.refl _ _).alloc (Nat.le_refl _) _
  have hX2 : W2.heap[W1.heap.size]? = some (.cells #[.string p, .string q] 9 (0, 0)) := by rw [hW2]; exact heap_alloc_new _ _
  have hl2 : w.heap.size < W2.heap.size := Nat.lt_of_lt_of_le hl1 hB2.size
  have hX12 := (hB2.block _ hl1).trans hX1
  have hB12 := hB1.trans (hB2.mono hB1.size)
  have hc : ∀ W, Below W2.heap.size W2 W → W.cell? ⟨w.heap.size, 0, none⟩ = some (.string p) ∧ W.cell? ⟨w.heap.size, 1, none⟩ = some (.string q) := fun W hb => by
    have hx := (hb.block _ hl2).trans hX12
    exact ⟨cell_of_row _ _ 0 _ _ _ hx, cell_of_row _ _ 1 _ _ _ hx⟩
  have c0 : W1.cell? ⟨w.heap.size, 0, none⟩ = some (.string p) := cell_of_row _ _ 0 _ _ _ hX1
  have c1 : W1.cell? ⟨w.heap.size, 1, none⟩ = some (.string q) := cell_of_row _ _ 1 _ _ _ hX1
  have hel : ∀ k : Nat, k < 2 → ∃ x, (x = if k = 0 then p else q) ∧ W2.cell? ⟨W1.heap.size, k, none⟩ = some (.string x) := fun k hk => by
    refine ⟨_, rfl, ?_⟩
    rcases (show k = 0 ∨ k = 1 by omega) with rfl | rfl
    · exact cell_of_row _ _ 0 _ _ _ hX2
    · exact cell_of_row _ _ 1 _ _ _ hX2
  have HC := hide hc; have HB12 := hide hB12; have HW1 := hide hW1; have HW2 := hide hW2; have HEL := hide hel; have HL2 := hide hl2; have HL1 := hide hl1
  clear hc hB1 hB2 hB12 hX1 hX2 hX12 hW1 hW2 hel hl2 hl1
  obtain ⟨g2, hg2⟩ : ∃ g2, g2 = W1.heap.size := ⟨_, rfl⟩
  go_enter Tryz.func22, Tryz.ntmps22
  go_upto_region 1 with fail
  rw [← unhide HW1]
  go_upto_region 2 with fail
  rw [← unhide HW2]
  go_loopw [22] (fun i wr => ∃ k : Nat, k ≤ 2 ∧ i = .int .i64 k ∧ Hid ((1 ≤ k → isFacB p = true) ∧ (2 ≤ k → isFacB q = true)) ∧ wr = W2) (fun i _ => 2 - (intOf i).toNat)
  case atStart => exact ⟨0, Nat.zero_le _, rfl, hide ⟨fun h => absurd h (by decide), fun h => absurd h (by decide)⟩, rfl⟩
  case round =>
    obtain ⟨k, hk, rfl, hfac, hwr⟩ := hrel
    have hwr2 := hwr.symm
    subst hwr2
    clear hwr
    by_cases hlt : k < 2
    · obtain ⟨x, hx, cx⟩ := unhide HEL k hlt
      have HX := hide hx
      have hki : (k : Int) < 2 := by omega
      clear hx
      rcases fac_cases x with ⟨hf, h0 | ⟨h0, h1⟩ | ⟨h0, h1, h2⟩⟩ | ⟨hf, h0, h1, h2⟩
      · have HF : Hid (secE p q = 1) := hide (secE_form (by
          have e := unhide HX
          rcases (show k = 0 ∨ k = 1 by omega) with e0 | e0
          · rw [e0, if_pos rfl] at e; rw [← e, hf]; rfl
          · rw [e0, if_neg (by decide)] at e; rw [← e, hf, Bool.and_false]))
        have z0 : (x.size : Int) < 1 := by omega
        clear hf h0
        go_wp2
        exact bodyPost_ret (v := .tuple #[.string ⟨#[]⟩, .pointer none, .int .i64 1]) (by simp [results, Tryz.results22, go_sem]) rfl ⟨.bad (by rw [unhide HF]; decide) (by rw [unhide HF]), unhide HB12⟩
      · have HF : Hid (secE p q = 1) := hide (secE_form (by
          have e := unhide HX
          rcases (show k = 0 ∨ k = 1 by omega) with e0 | e0
          · rw [e0, if_pos rfl] at e; rw [← e, hf]; rfl
          · rw [e0, if_neg (by decide)] at e; rw [← e, hf, Bool.and_false]))
        have z0 : ¬ (x.size : Int) < 1 := by omega
        have z1 : (96 : Int) < (x.size : Int) := by omega
        clear hf h0 h1
        go_wp2
        exact bodyPost_ret (v := .tuple #[.string ⟨#[]⟩, .pointer none, .int .i64 1]) (by simp [results, Tryz.results22, go_sem]) rfl ⟨.bad (by rw [unhide HF]; decide) (by rw [unhide HF]), unhide HB12⟩
      · have HF : Hid (secE p q = 1) := hide (secE_form (by
          have e := unhide HX
          rcases (show k = 0 ∨ k = 1 by omega) with e0 | e0
          · rw [e0, if_pos rfl] at e; rw [← e, hf]; rfl
          · rw [e0, if_neg (by decide)] at e; rw [← e, hf, Bool.and_false]))
        have z0 : ¬ (x.size : Int) < 1 := by omega
        have z1 : ¬ (96 : Int) < (x.size : Int) := by omega
        have z2 : ∀ h, ((x[0]'h).toNat : Int) = 0 := fun h => by rw [head_at x h0 h, h2]; rfl
        have z3 : 0 < x.size := h0
        clear hf h0 h1 h2
        go_wp2
        exact bodyPost_ret (v := .tuple #[.string ⟨#[]⟩, .pointer none, .int .i64 1]) (by simp [results, Tryz.results22, go_sem]) rfl ⟨.bad (by rw [unhide HF]; decide) (by rw [unhide HF]), unhide HB12⟩
      · have HF : Hid ((1 ≤ k + 1 → isFacB p = true) ∧ (2 ≤ k + 1 → isFacB q = true)) := hide (by
          have e := unhide HX
          have o := unhide hfac
          rcases (show k = 0 ∨ k = 1 by omega) with e0 | e0
          · rw [e0, if_pos rfl] at e; rw [← e]; exact ⟨fun _ => hf, fun h => by omega⟩
          · rw [e0, if_neg (by decide)] at e; rw [← e]; exact ⟨fun _ => o.1 (by omega), fun _ => hf⟩)
        have z0 : ¬ (x.size : Int) < 1 := by omega
        have z1 : ¬ (96 : Int) < (x.size : Int) := by omega
        obtain ⟨c, hcc⟩ : ∃ c : Nat, c = (x.data.toList.headD 0).toNat := ⟨_, rfl⟩
        have z2 : ∀ h, ((x[0]'h).toNat : Int) = (c : Int) := fun h => by rw [head_at x h0 h, hcc]
        have z3 : 0 < x.size := h0
        have z4 : ((c : Int) == 0) = false := by rw [beq_eq_false_iff_ne]; omega
        clear hf h0 h1 h2 hcc
        go_wp2
        go_roundw
        case rel => exact ⟨k + 1, by omega, by go_num, HF, by first | rfl | trivial⟩
        case measure => simp [intOf]; omega
    · have hf2 : Hid ((isFacB p && isFacB q) = true) := hide (by
        have o := unhide hfac
        rw [o.1 (by omega), o.2 (by omega)]; rfl)
      have hk2 : ¬ (k : Int) < 2 := by omega
      clear hfac hlt
      go_upto_region 7 with fail
      have hfp : isFacB p = true := by have := unhide hf2; cases h : isFacB p with | true => rfl | false => rw [h] at this; simp at this
      have hfq : isFacB q = true := by have := unhide hf2; cases h : isFacB q with | true => rfl | false => rw [h, Bool.and_false] at this; simp at this
      obtain ⟨zp1, zp2, zp3⟩ := fac_pos hfp
      obtain ⟨zq1, zq2, zq3⟩ := fac_pos hfq
      have RP := hide (fun W => whole_any p W (by omega))
      have RQ := hide (fun W => whole_any q W (by omega))
      have la := valN_96 p zp2
      have lb := valN_96 q zq2
      have HE := hide (fun hm => secE_good (p := p) (q := q) (unhide hf2) hm)
      have HEM := hide (fun hm => secE_mod (p := p) (q := q) hm)
      have HD : Hid (secD p q = ((valN p.data.toList - 1) * (valN q.data.toList - 1) * (3 - (valN p.data.toList - 1) * (valN q.data.toList - 1) % 3) + 1) / 3) := hide rfl
      have HM : Hid (secE p q = 0 → secM p q = secT (valN p.data.toList) (valN q.data.toList)) := hide (fun h => by unfold secM; rw [if_pos h])
      generalize valN p.data.toList = a at *
      generalize valN q.data.toList = b at *
      have HLA := hide (And.intro la (And.intro lb (And.intro zp3 zq3)))
      clear hfp hfq zp1 zp2 zp3 zq1 zq2 zq3 la lb hf2 c0 c1 hk2 hk hg2 HEL
      go_cut [7, 8] (fun u v wx => ∃ (g h : Nat), u = .pointer (some ⟨g, 0, none⟩) ∧ v = .pointer (some ⟨h, 0, none⟩) ∧ IntAt wx g a ∧ IntAt wx h b ∧ Below w.heap.size w wx)
      case first =>
        have hS0 := unhide HC _ (Below.refl W2.heap.size W2).drew
        go_wp2_with fail
        go_region_held3 (fun W => W.cell? ⟨w.heap.size, 0, none⟩ = some (.string p) ∧ W.cell? ⟨w.heap.size, 1, none⟩ = some (.string q))
          (first | (with_reducible exact hS0) | (with_reducible exact unhide HC _ b2) | (with_reducible exact unhide HC _ b1) | exact hS0 | go_keep)
          ((first | (have hq := b1; go_at_call 55; refine (unhide RQ _).mono ?_; rintro e z2 ⟨⟨rfl, hI2⟩, k2, hl2⟩; have b2 : Below W2.heap.size W2 z2 := b1.trans (k2.mono b1.size)) | (go_at_call 55; refine (unhide RP _).mono ?_; rintro e z1 ⟨⟨rfl, hI1⟩, k1, hl1⟩; have b1 : Below W2.heap.size W2 z1 := (Below.refl _ _).drew.trans k1)))
        all_goals
          have HF := hide (And.intro (hI1.below k2) (And.intro hI2 ((unhide HB12).trans (b2.mono (unhide HB12).size))))
          clear hI1 hI2 hl1 hl2
          go_wp2
          go_meet
          exact ⟨_, _, rfl, rfl, (unhide HF).1, (unhide HF).2.1, (unhide HF).2.2⟩
      case rest =>
      obtain ⟨g, h, rfl, rfl, hIa, hIb, hbc⟩ := hcut
      obtain ⟨la, lb, zp3, zq3⟩ := unhide HLA
      have lg := hIa.lt
      have lh := hIb.lt
      have NM := hide (bigMul_any wc.heap.size g h a b false (.slice none 0 0) _ (box_new wc) (hIa.below (boxO_below wc)) (hIb.below (boxO_below wc)) (Nat.ne_of_lt lg) (Nat.ne_of_lt lh) (lt_up la 5000 (by decide)) (lt_up lb 5000 (by decide)))
      have HIA := hide hIa; have HIB := hide hIb; have HBC := hide hbc; have HLG := hide (And.intro lg lh)
      clear hIa hIb hbc lg lh la lb zp3 zq3 RP RQ HC HB12 HW1 HW2 HL1 HL2
      go_wp2_with fail
      refine (unhide NM).mono ?_
      rintro e y1 ⟨rfl, hI1, hb1, ho1, hs1⟩
      have hK1 : Below wc.heap.size wc y1 := (boxO_below wc).trans (hb1 _ (Nat.le_refl _))
      obtain ⟨la, lb, zp3, zq3⟩ := unhide HLA
      have hab : a * b < B32 ^ 48 := by
        have := Nat.mul_lt_mul'' la lb
        rwa [← Nat.pow_add] at this
      have NB := hide (bigBytes_any wc.heap.size (a * b) y1 hI1 (lt_up hab 10000 (by decide)))
      have HK1 := hide hK1; have HI1 := hide hI1
      clear hI1 hb1 ho1 hs1 hK1 la lb zp3 zq3 hab NM
      go_wp2_with fail
      refine (unhide NB).mono ?_
      rintro e y2 ⟨⟨k9, L, hL, hk9, rfl, hY⟩, hK2⟩
      have hT : strOfNums (bigL (a * b) k9) = secT a b := by unfold secT; rw [hk9, isLen_lenB hL]
      have hcv := yconv hY (bigL_length (a * b) k9)
      rw [hT] at hcv
      have HK2 := hide hK2
      have H22 := hide (fun (h1 : isModB (secT a b) = true) => secT_22 (a := a) (b := b) h1)
      generalize secT a b = T at *
      clear hL hk9 hY hK2 hT NB
      go_wp2_with fail
      refine (rmodulus_any T _).mono ?_
      rintro e y3 ⟨rfl, hy3⟩
      have hy4 := hy3.symm
      subst hy4
      clear hy3 hcv
      cases hm : isModB T with
      | false =>
        have HF := hide (unhide HEM hm)
        have HBB := hide ((unhide HBC).trans (((unhide HK1).trans ((unhide HK2).mono (unhide HK1).size)).mono (unhide HBC).size))
        clear hm
        go_wp2
        exact bodyPost_ret (v := .tuple #[.string ⟨#[]⟩, .pointer none, .int .i64 1]) (by simp [results, Tryz.results22, go_sem]) rfl ⟨.bad (by rw [unhide HF]; decide) (by rw [unhide HF]), unhide HBB⟩
      | true =>
        have HF := hide (unhide HE hm)
        have H2N := hide (unhide H22 hm)
        have hK12 := (unhide HK1).trans ((unhide HK2).mono (unhide HK1).size)
        have HIA2 := hide ((unhide HIA).below hK12); have HIB2 := hide ((unhide HIB).below hK12)
        have HBB := hide ((unhide HBC).trans (hK12.mono (unhide HBC).size))
        have N1 := hide (fun W => newInt_any 1 W (by decide))
        have N3 := hide (fun W => newInt_any 3 W (by decide))
        clear hm HE HEM HIA HIB HK1 HK2 HI1 HBC hK12
        go_wp2_with fail
        refine (unhide N1 _).mono ?_
        rintro e x1 ⟨rfl, hJ1, kk1, ll1⟩
        have HIA3 := hide ((unhide HIA2).below kk1); have HIB3 := hide ((unhide HIB2).below kk1)
        have HJ1 := hide hJ1
        have HBB1 := hide ((unhide HBB).trans (kk1.mono (unhide HBB).size))
        clear hJ1 kk1 ll1 HIA2 HIB2 HBB
        go_wp2_with fail
        refine (unhide N3 _).mono ?_
        rintro e x2 ⟨rfl, hJ3, kk1, ll1⟩
        have hx1 := (unhide HJ1).lt
        generalize y2.heap.size = p1 at *
        have hp3 := hJ3.lt
        generalize hp3e : x1.heap.size = p3 at *
        have HIA4 := hide ((unhide HIA3).below (by rw [hp3e]; exact kk1)); have HIB4 := hide ((unhide HIB3).below (by rw [hp3e]; exact kk1))
        have HJ1' := hide ((unhide HJ1).below (by rw [hp3e]; exact kk1))
        have HJ3 := hide hJ3
        have HBB2 := hide ((unhide HBB1).trans (kk1.mono (by have := (unhide HBB1).size; rw [← hp3e]; exact this)))
        obtain ⟨la, lb, zp3, zq3⟩ := unhide HLA
        have hIA4 := unhide HIA4; have hIB4 := unhide HIB4; have hJ1' := unhide HJ1'
        have s1 := hIA4.lt; have s2 := hIB4.lt; have s3 := hJ1'.lt
        have v12 : Below x2.heap.size x2 ((x2.alloc boxI).alloc boxI) := (boxO_below x2).trans ((boxO_below _).mono (boxO_below x2).size)
        have bx2 : BoxAt3 ((x2.alloc boxI).alloc boxI) (x2.heap.size + 1) false (.slice none 0 0) := by
          have := box_new (x2.alloc boxI)
          rwa [World.size_alloc] at this
        have bx1 : BoxAt3 ((x2.alloc boxI).alloc boxI) x2.heap.size false (.slice none 0 0) := (box_new x2).below (boxO_below _)
        have NS1 := hide (bigSub_any (x2.heap.size + 1) g p1 a 1 false (.slice none 0 0) _ bx2 (hIA4.below v12) (hJ1'.below v12) (by omega) (by omega) (lt_up la 10000 (by decide)) (small_lt 1 (by decide) 10000 (by decide)) zp3 (by omega))
        have HV12 := hide v12; have HBX1 := hide bx1
        have HBASE := hide hp3e
        clear hIA4 hIB4 hJ1' v12 bx1 bx2 s1 s2 s3 la lb zp3 zq3 hJ3 kk1 ll1 hx1 hp3 hp3e HIA3 HIB3 HBB1 HJ1 N1 N3
        go_wp2_with fail
        refine (unhide NS1).mono ?_
        rintro e t1 ⟨rfl, hS1, hb, ho, hs⟩
        have bx1 : BoxAt3 t1 x2.heap.size false (.slice none 0 0) := (unhide HBX1).other (ho _ (by simp; omega) (by omega))
        have kt1 : Below x2.heap.size x2 t1 := (unhide HV12).trans (hb _ (by omega))
        have hIB5 := (unhide HIB4).below kt1; have hJ5 := (unhide HJ1').below kt1
        have vt := boxO_below t1
        obtain ⟨la, lb, zp3, zq3⟩ := unhide HLA
        have q1 := hIB5.lt; have q2 := hJ5.lt; have q3 := hS1.lt
        have NS2 := hide (bigSub_any t1.heap.size h p1 b 1 false (.slice none 0 0) _ (box_new t1) (hIB5.below vt) (hJ5.below vt) (by omega) (by omega) (lt_up lb 10000 (by decide)) (small_lt 1 (by decide) 10000 (by decide)) zq3 (by omega))
        have F1 := hide (And.intro bx1 (And.intro kt1 (And.intro hS1 q3)))
        clear hS1 hb ho hs bx1 kt1 hIB5 hJ5 vt la lb zp3 zq3 q1 q2 q3 NS1 HV12 HBX1
        go_wp2_with fail
        refine (unhide NS2).mono ?_
        rintro e t2 ⟨rfl, hS2, hb, ho, hs⟩
        obtain ⟨bx1, kt1, hS1, q3⟩ := unhide F1
        have kt2 : Below t1.heap.size t1 t2 := (boxO_below t1).trans (hb _ (Nat.le_refl _))
        obtain ⟨la, lb, zp3, zq3⟩ := unhide HLA
        have q4 := kt1.size
        have NM2 := hide (bigMul_any x2.heap.size (x2.heap.size + 1) t1.heap.size (a - 1) (b - 1) false (.slice none 0 0) t2 (bx1.below kt2) (hS1.below kt2) hS2 (by omega) (by omega) (lt_up (Nat.lt_of_le_of_lt (Nat.sub_le _ _) la) 5000 (by decide)) (lt_up (Nat.lt_of_le_of_lt (Nat.sub_le _ _) lb) 5000 (by decide)))
        have hNb : (a - 1) * (b - 1) < B32 ^ 48 := by
          have := Nat.mul_lt_mul'' (Nat.lt_of_le_of_lt (Nat.sub_le _ 1) la) (Nat.lt_of_le_of_lt (Nat.sub_le _ 1) lb)
          rwa [← Nat.pow_add] at this
        have HNB := hide hNb
        generalize (a - 1) * (b - 1) = N at *
        have K2 := hide (kt1.trans (kt2.mono kt1.size))
        clear hS2 hb ho hs bx1 kt1 hS1 q3 kt2 la lb zp3 zq3 q4 hNb NS2 F1
        go_wp2_with fail
        refine (unhide NM2).mono ?_
        rintro e t3 ⟨rfl, hIN, hb, ho, hs⟩
        have kt3 : Below x2.heap.size x2 t3 := (unhide K2).trans (hb _ (Nat.le_refl _))
        have NC := hide (bigCmp_any x2.heap.size p1 N 1 t3 hIN ((unhide HJ1').below kt3) (lt_up (unhide HNB) 10000 (by decide)) (small_lt 1 (by decide) 10000 (by decide)))
        have HIN := hide hIN; have KT3 := hide kt3
        clear hIN hb ho hs kt3 NM2 K2
        obtain ⟨n0, hn0⟩ : ∃ n0, n0 = x2.heap.size := ⟨_, rfl⟩
        rw [← hn0] at NC HIN
        rw [← hn0]
        have HN0 := hide hn0
        clear hn0
        go_wp2_with fail
        refine (unhide NC).mono ?_
        rintro e t4 ⟨rfl, kt4⟩
        have kt := (unhide KT3).trans (kt4.mono (unhide KT3).size)
        have hIN := (unhide HIN).below kt4
        have hJ1 := (unhide HJ1').below kt
        have hJ3 := (unhide HJ3).below kt
        have hB4 := (unhide HBB2).trans (kt.mono (unhide HBB2).size)
        have HALL := hide (And.intro hIN (And.intro hJ1 (And.intro hJ3 hB4)))
        clear kt4 kt hIN hJ1 hJ3 hB4 HIN HJ1' HJ3 HBB2 KT3 NC HIA4 HIB4 HBASE
        by_cases hN1 : N ≤ 1
        · have hc : ordI N 1 ≤ 0 := by unfold ordI; split <;> (try split) <;> omega
          have hN0 : N = 0 := by have := unhide H2N; omega
          have HE5 : Hid (secE p q = 5) := hide (by rw [unhide HF, hN0]; rfl)
          generalize ordI N 1 = oc at *
          clear hN1 hN0
          go_wp2
          exact bodyPost_ret (v := .tuple #[.string ⟨#[]⟩, .pointer none, .int .i64 5]) (by simp [results, Tryz.results22, go_sem]) rfl ⟨.bad (by rw [unhide HE5]; decide) (by rw [unhide HE5]), (unhide HALL).2.2.2⟩
        · have hc : ¬ ordI N 1 ≤ 0 := by unfold ordI; rw [if_neg (by omega), if_pos (by omega)]; decide
          generalize ordI N 1 = oc at *
          clear hN1
          go_wp2
          go_loopw [13] (fun i wr => ∃ k : Nat, 1 ≤ k ∧ k ≤ 3 ∧ i = .int .i64 k ∧ Hid ((2 ≤ k → ¬ (1 + N * 1) % 3 = 0) ∧ (3 ≤ k → ¬ (1 + N * 2) % 3 = 0)) ∧ Hid (IntAt wr n0 N ∧ IntAt wr p1 1 ∧ IntAt wr p3 3 ∧ Below w.heap.size w wr)) (fun i _ => 4 - (intOf i).toNat)
          case atStart => exact ⟨1, by decide, by decide, rfl, hide ⟨fun h => absurd h (by decide), fun h => absurd h (by decide)⟩, HALL⟩
          case round =>
            obtain ⟨k9, hk1, hk3, rfl, hno, hall⟩ := hrel
            by_cases hlt : k9 ≤ 2
            · obtain ⟨hIN, hJ1, hJ3, hB4⟩ := unhide hall
              have r1 := hIN.lt; have r2 := hJ1.lt; have r3 := hJ3.lt
              obtain ⟨V3, hV3⟩ : ∃ V3, V3 = ((wr.alloc boxI).alloc boxI).alloc boxI := ⟨_, rfl⟩
              have v3 : Below wr.heap.size wr V3 := by rw [hV3]; exact ((boxO_below wr).trans ((boxO_below _).mono (boxO_below wr).size)).trans ((boxO_below _).mono (by simp; omega))
              have bz0 : BoxAt3 V3 wr.heap.size false (.slice none 0 0) := by rw [hV3]; exact ((box_new wr).below (boxO_below _)).below (boxO_below _)
              have bz1 : BoxAt3 V3 (wr.heap.size + 1) false (.slice none 0 0) := by
                have := (box_new (wr.alloc boxI)).below (boxO_below _)
                rw [World.size_alloc] at this
                rw [hV3]; exact this
              have bz2 : BoxAt3 V3 (wr.heap.size + 1 + 1) false (.slice none 0 0) := by
                have := box_new ((wr.alloc boxI).alloc boxI)
                rw [World.size_alloc, World.size_alloc] at this
                rw [hV3]; exact this
              have sz3 : V3.heap.size = wr.heap.size + 1 + 1 + 1 := by rw [hV3]; simp
              have NI := hide (newInt_any k9 V3 (by omega))
              have F0 := hide (And.intro v3 (And.intro bz0 (And.intro bz1 (And.intro bz2 (And.intro sz3 (And.intro r1 (And.intro r2 r3)))))))
              have HV3 := hide hV3
              have hk2 : (k9 : Int) ≤ 2 := by omega
              clear hIN hJ1 hJ3 hB4 r1 r2 r3 v3 bz0 bz1 bz2 sz3 hV3
              go_wp2_with fail
              rw [← unhide HV3]
              refine (unhide NI).mono ?_
              rintro e t1 ⟨rfl, hJk, kk1, ll1⟩
              obtain ⟨hIN, hJ1, hJ3, hB4⟩ := unhide hall
              obtain ⟨v3, bz0, bz1, bz2, sz3, r1, r2, r3⟩ := unhide F0
              have kt1 := v3.trans (kk1.mono v3.size)
              have kb : k9 < B32 ^ 1 := small_lt k9 (by omega) 1 (by decide)
              have NM := hide (bigMul_any (wr.heap.size + 1 + 1) n0 V3.heap.size N k9 false (.slice none 0 0) t1 (bz2.below kk1) (hIN.below kt1) hJk (by omega) (by omega) (lt_up (unhide HNB) 5000 (by decide)) (lt_up kb 5000 (by decide)))
              have F1 := hide (And.intro kt1 (And.intro (bz0.below kk1) (And.intro (bz1.below kk1) kk1)))
              clear hJk kk1 ll1 hIN hJ1 hJ3 hB4 v3 bz0 bz1 bz2 sz3 r1 r2 r3 kt1 kb NI
              go_wp2_with fail
              refine (unhide NM).mono ?_
              rintro e t2 ⟨rfl, hM2, hb, ho, hs⟩
              obtain ⟨hIN, hJ1, hJ3, hB4⟩ := unhide hall
              obtain ⟨v3, _, _, _, sz3, r1, r2, r3⟩ := unhide F0
              obtain ⟨kt1, bz0, bz1, kk1⟩ := unhide F1
              have kt1s := kk1.size
              have kt2 : Below wr.heap.size wr t2 := kt1.trans (hb _ (by omega))
              have bz0' := bz0.other (ho _ (by omega) (by omega))
              have bz1' := bz1.other (ho _ (by omega) (by omega))
              have hNk : N * k9 < B32 ^ 49 := by
                have := Nat.mul_lt_mul'' (unhide HNB) (small_lt k9 (by omega) 1 (by decide))
                rwa [← Nat.pow_add] at this
              have NA := hide (bigAdd_any (wr.heap.size + 1) p1 (wr.heap.size + 1 + 1) 1 (N * k9) false (.slice none 0 0) t2 bz1' (hJ1.below kt2) hM2 (by omega) (by omega) (small_lt 1 (by decide) 10000 (by decide)) (lt_up hNk 10000 (by decide)))
              have F2 := hide (And.intro kt2 (And.intro bz0' (And.intro hNk (show wr.heap.size + 1 < t2.heap.size by omega))))
              clear hM2 hb ho hs hIN hJ1 hJ3 hB4 v3 sz3 r1 r2 r3 kt1 bz0 bz1 kk1 kt1s kt2 bz0' bz1' hNk NM F1
              go_wp2_with fail
              refine (unhide NA).mono ?_
              rintro e t3 ⟨rfl, hA3, hb, ho, hs⟩
              obtain ⟨hIN, hJ1, hJ3, hB4⟩ := unhide hall
              obtain ⟨v3, _, _, _, sz3, r1, r2, r3⟩ := unhide F0
              obtain ⟨kt2, bz0, hNk, hlt2⟩ := unhide F2
              have kt3 : Below wr.heap.size wr t3 := kt2.trans (hb _ (by omega))
              have bz0' := bz0.other (ho _ (by omega) (by omega))
              have vb := boxO_below t3
              have hsum : 1 + N * k9 < B32 ^ 10000 := by
                have h1 : B32 ^ 49 * 2 ≤ B32 ^ 50 := by rw [Nat.pow_succ B32 49]; exact Nat.mul_le_mul_left _ (by decide)
                have h2 : 1 ≤ B32 ^ 49 := Nat.pow_pos (by decide)
                exact lt_up (j := 50) (by omega) 10000 (by decide)
              have NQ := hide (quoRem_any wr.heap.size (wr.heap.size + 1) p3 t3.heap.size (1 + N * k9) 3 false false (.slice none 0 0) (.slice none 0 0) _ (bz0'.below vb) (box_new t3) (hA3.below vb) ((hJ3.below kt3).below vb) (by omega) (by omega) (by omega) hsum (by decide) (by decide))
              have F3 := hide (And.intro kt3 vb)
              clear hA3 hb ho hs hIN hJ1 hJ3 hB4 v3 sz3 r1 r2 r3 kt2 bz0 hNk hlt2 kt3 bz0' vb hsum NA F2
              go_wp2_with fail
              refine (unhide NQ).mono ?_
              rintro e t4' ⟨rfl, hQ4, hR4, hb, ho, hs⟩
              obtain ⟨hIN, hJ1, hJ3, hB4⟩ := unhide hall
              obtain ⟨v3, _, _, _, sz3, r1, r2, r3⟩ := unhide F0
              obtain ⟨kt3, vb⟩ := unhide F3
              have kv := kt3.trans (vb.mono kt3.size)
              have kt4 : Below wr.heap.size wr t4' := kv.trans (hb _ (Nat.le_refl _) kt3.size)
              have NG := hide (sign_any t3.heap.size ((1 + N * k9) % 3) t4' hR4)
              have HQ4 := hide hQ4; have KT4 := hide kt4
              clear hQ4 hR4 hb ho hs hIN hJ1 hJ3 hB4 v3 sz3 r1 r2 r3 kt3 vb kv kt4 NQ F3
              by_cases h0 : (1 + N * k9) % 3 = 0
              · rw [h0, if_pos rfl] at NG
                have HDD := hide (d_of h0 (by omega))
                clear h0
                go_wp2_with fail
                refine (unhide NG).mono ?_
                rintro e t5 ⟨rfl, ht5⟩
                have ht6 := ht5.symm
                subst ht6
                clear ht5
                go_wp2
                exact bodyPost_ret (v := .tuple #[.string T, .pointer (some ⟨wr.heap.size, 0, none⟩), .int .i64 0]) (by simp [results, Tryz.results22, go_sem]) rfl ⟨.good wr.heap.size (by rw [unhide HF, if_neg (unhide HDD).1]) (by rw [unhide HM (by rw [unhide HF, if_neg (unhide HDD).1])]) (by rw [unhide HD, (unhide HDD).2]; exact unhide HQ4), (unhide hall).2.2.2.trans ((unhide KT4).mono (unhide hall).2.2.2.size)⟩
              · rw [if_neg h0] at NG
                have HNO : Hid ((2 ≤ k9 + 1 → ¬ (1 + N * 1) % 3 = 0) ∧ (3 ≤ k9 + 1 → ¬ (1 + N * 2) % 3 = 0)) := hide (by
                  have o := unhide hno
                  rcases (show k9 = 1 ∨ k9 = 2 by omega) with e | e
                  · rw [e] at h0; exact ⟨fun _ => h0, fun h => by omega⟩
                  · rw [e] at h0; exact ⟨fun _ => o.1 (by omega), fun _ => h0⟩)
                clear h0
                go_wp2_with fail
                refine (unhide NG).mono ?_
                rintro e t5 ⟨rfl, ht5⟩
                have ht6 := ht5.symm
                subst ht6
                clear ht5
                have HALL2 : Hid (IntAt t4' n0 N ∧ IntAt t4' p1 1 ∧ IntAt t4' p3 3 ∧ Below w.heap.size w t4') := hide (by
                  obtain ⟨hIN, hJ1, hJ3, hB4⟩ := unhide hall
                  have kt := unhide KT4
                  exact ⟨hIN.below kt, hJ1.below kt, hJ3.below kt, hB4.trans (kt.mono hB4.size)⟩)
                go_wp2
                go_roundw
                case rel => exact ⟨k9 + 1, by omega, by omega, by go_num, HNO, HALL2⟩
                case measure => simp [intOf]; omega
            · have hE5 : Hid (secE p q = 5) := hide (by
                have o := unhide hno
                have o1 := o.1 (by omega)
                have o2 := o.2 (by omega)
                rw [unhide HF, if_pos (none_third o1 o2)])
              have hk2 : ¬ (k9 : Int) ≤ 2 := by omega
              go_wp2
              exact bodyPost_ret (v := .tuple #[.string ⟨#[]⟩, .pointer none, .int .i64 5]) (by simp [results, Tryz.results22, go_sem]) rfl ⟨.bad (by rw [unhide hE5]; decide) (by rw [unhide hE5]), (unhide hall).2.2.2⟩
end Go.Proofs.YtajkbkljonejnaaGreatDoor
namespace Go.Proofs.YtajkbkljonejnaaGreatDoor
open Go.RowKit
set_option linter.unusedVariables false
def validB (t : Int) : Bool :=
  if t < 1 ∨ 16777216 ≤ t then false
  else if t < 256 then !(t % 32 == 31)
  else if t < 65536 then (t / 256 % 32 == 31) && (decide (31 ≤ t % 256) && decide (t % 256 ≤ 127))
  else (t / 65536 % 32 == 31) && (decide (129 ≤ t / 256 % 256) && decide (t % 256 ≤ 127))
theorem and_31 (x : Int) (h₀ : 0 ≤ x) (h₁ : x ≤ 9223372036854775807) : bits .and .i64 x 31 = x % 32 := bits_mask .i64 63 (by decide) wraps_i64 5 (by decide) x h₀ (by omega)
theorem and_255 (x : Int) (h₀ : 0 ≤ x) (h₁ : x ≤ 9223372036854775807) : bits .and .i64 x 255 = x % 256 := bits_mask .i64 63 (by decide) wraps_i64 8 (by decide) x h₀ (by omega)
theorem get_nums (xs : List Int) (i : Nat) (v : Int) (hv : xs[i]? = some v) (h0 : 0 ≤ v) (h1 : v < 256) (h : i < (strOfNums xs).size) : (((strOfNums xs)[i]'h).toNat : Int) = v := by
  have e : (strOfNums xs)[i]'h = ((xs.map fun n => UInt8.ofNat n.toNat).toArray)[i]'(by simpa [strOfNums_size] using h) := rfl
  have hx : i < xs.length := by rw [strOfNums_size] at h; exact h
  rw [e]
  have ev : xs[i] = v := by rw [List.getElem?_eq_getElem hx] at hv; exact Option.some.inj hv
  simp only [List.getElem_toArray, List.getElem_map, ev, UInt8.toNat_ofNat']
  omega
theorem goesOn_any (x : Int) (w : World) (h₀ : 0 ≤ x) (h₁ : x ≤ 9223372036854775807) :
    Calls Tryz.prog 148 #[.int .i64 x] w fun e w' => e = .returned (.bool (x % 32 == 31)) ∧ w' = w := by
  have e := and_31 x h₀ h₁
  go_enter Tryz.func148, Tryz.ntmps148
  go_wp2
  go_ret
  exact ⟨rfl, rfl⟩
set_option maxHeartbeats 1000000 in
theorem valid_any (t : Int) (w : World) (h₁ : t ≤ 9223372036854775807) :
    Calls Tryz.prog 122 #[.int .i64 t] w fun e w' => e = .returned (.bool (validB t)) ∧ w' = w := by
  by_cases c0 : t < 1
  · have hv : validB t = false := by unfold validB; rw [if_pos (.inl c0)]
    rw [hv]
    go_enter Tryz.func122, Tryz.ntmps122
    go_wp2
    go_ret
    exact ⟨rfl, rfl⟩
  · by_cases c1 : 16777216 ≤ t
    · have hv : validB t = false := by unfold validB; rw [if_pos (.inr c1)]
      rw [hv]
      go_enter Tryz.func122, Tryz.ntmps122
      go_wp2
      go_ret
      exact ⟨rfl, rfl⟩
    · have hn : ¬ (t < 1 ∨ 16777216 ≤ t) := by omega
      have e1 := and_255 t (by omega) h₁
      have e2 := and_255 (t / 256) (by omega) (by omega)
      by_cases c2 : t < 256
      · have hv : validB t = !(t % 32 == 31) := by unfold validB; rw [if_neg hn, if_pos c2]
        rw [hv]
        clear hn
        go_enter Tryz.func122, Tryz.ntmps122
        go_wp2_with (go_at_call 148; refine (goesOn_any t _ (by omega) (by omega)).mono ?_; rintro e w1 ⟨rfl, rfl⟩)
        go_ret
        exact ⟨rfl, rfl⟩
      · by_cases c3 : t < 65536
        · have hv : validB t = ((t / 256 % 32 == 31) && (decide (31 ≤ t % 256) && decide (t % 256 ≤ 127))) := by unfold validB; rw [if_neg hn, if_neg c2, if_pos c3]
          rw [hv]
          clear hn
          go_enter Tryz.func122, Tryz.ntmps122
          go_wp2_with (go_at_call 148; refine (goesOn_any (t / 256) _ (by omega) (by omega)).mono ?_; rintro e w1 ⟨rfl, rfl⟩)
          · have g1 : t / 256 % 32 = 31 := by assumption
            have g2 : 31 ≤ t % 256 := by assumption
            go_ret
            exact ⟨ret_bool (by simp [g1, g2]), rfl⟩
          · have g1 : t / 256 % 32 = 31 := by assumption
            have g2 : t % 256 < 31 := by assumption
            go_ret
            exact ⟨ret_bool (by simp; omega), rfl⟩
          · have g1 : ¬ t / 256 % 32 = 31 := by assumption
            go_ret
            exact ⟨ret_bool (by simp [g1]), rfl⟩
        · have hv : validB t = ((t / 65536 % 32 == 31) && (decide (129 ≤ t / 256 % 256) && decide (t % 256 ≤ 127))) := by unfold validB; rw [if_neg hn, if_neg c2, if_neg c3]
          rw [hv]
          clear hn
          go_enter Tryz.func122, Tryz.ntmps122
          go_wp2_with (go_at_call 148; refine (goesOn_any (t / 65536) _ (by omega) (by omega)).mono ?_; rintro e w1 ⟨rfl, rfl⟩)
          · have g1 : t / 65536 % 32 = 31 := by assumption
            have g2 : 129 ≤ t / 256 % 256 := by assumption
            go_ret
            exact ⟨ret_bool (by simp [g1, g2]), rfl⟩
          · have g1 : t / 65536 % 32 = 31 := by assumption
            have g2 : t / 256 % 256 < 129 := by assumption
            go_ret
            exact ⟨ret_bool (by simp; omega), rfl⟩
          · have g1 : ¬ t / 65536 % 32 = 31 := by assumption
            go_ret
            exact ⟨ret_bool (by simp [g1]), rfl⟩
set_option maxRecDepth 100000 in
set_option maxHeartbeats 1000000 in
theorem rvalid_any (t : Int) (w : World) (h₁ : t ≤ 9223372036854775807) :
    Calls Tryz.prog 51 #[.int .i64 t] w fun e w' => e = .returned (.bool (validB t)) ∧ Below w.heap.size w w' := by
  go_enter Tryz.func51, Tryz.ntmps51
  go_wp2
  go_loopw [3] (fun n wr => ∃ j : Nat, 1 ≤ j ∧ j ≤ 4 ∧ n = .int .i64 j ∧ (1 ≤ t → 1 < j → 256 ^ (j - 1) ≤ t) ∧ Below w.heap.size w wr) (fun n _ => 4 - (intOf n).toNat)
  case atStart => exact ⟨1, by omega, by omega, rfl, by omega, Below.refl _ _⟩
  case round =>
    obtain ⟨j, hj1, hj4, rfl, hge, hnx⟩ := hrel
    by_cases c0 : t < 1
    · by_cases c4 : j ≤ 3
      · clear hge
        go_wp2
        go_roundw
        case rel => exact ⟨j + 1, by omega, by omega, by go_num, by omega, hnx⟩
        case measure => simp [intOf]; omega
      · clear hge
        have hv : validB t = false := by unfold validB; rw [if_pos (.inl c0)]
        have HV := hide hv
        clear hv
        go_wp2
        go_ret
        exact ⟨ret_bool (unhide HV).symm, hnx⟩
    · have hj : j = 1 ∨ j = 2 ∨ j = 3 ∨ j = 4 := by omega
      have hge' := hge (by omega)
      clear hge
      obtain ⟨n, rfl⟩ := Int.eq_ofNat_of_zero_le (show 0 ≤ t by omega)
      have ht : ∀ b : Bool, j ≤ 3 → (b = decide (((256 ^ j : Nat) : Int) ≤ (n : Int))) → decide (wrap64 (2 ^ (8 * j)) ≤ (n : Int)) = b := fun b h3 e => by
        rw [e, wrap_pow j (by omega)]
      rcases hj with hj | hj | hj | hj
      · have hge2 : 1 ≤ n := by omega
        clear hge'
        have hja : 1 ≤ j := by omega
        have hjb : j ≤ 1 := by omega
        by_cases c1 : n < 256
        · have hv : validB (n : Int) = !((n : Int) % 32 == 31) := by unfold validB; rw [if_neg (by omega), if_pos (by omega)]
          have HV := hide hv
          clear hv
          have t1 := ht false (by omega) (by rw [hj]; simp; omega)
          have ix0 := get_nums (bigL n j) 0 (n) (by rw [hj]; simp [bigL]; omega) (by omega) (by omega)
          have HJ := hide hj
          have hsz : j ≤ (strOfNums (bigL n j)).size := by rw [strOfNums_size, bigL_length]; omega
          clear hj ht hj1 hj4
          by_cases c2 : (n : Int) % 32 = 31
          · have t2 : ((n : Int) % 32 != 31) = false := by rw [c2]; rfl
            have HC := hide c2
            clear c2
            go_wp2_with (go_at_call 89; refine (big_any n j _ (by omega) (by omega)).mono ?_; rintro e w1 ⟨rfl, hb1⟩)
            go_ret
            exact ⟨ret_bool (by rw [unhide HV, unhide HC]; rfl), hnx.trans (hb1.mono hnx.size)⟩
          · have t2 : ((n : Int) % 32 != 31) = true := by simpa using c2
            have HC := hide c2
            clear c2
            go_wp2_with (go_at_call 89; refine (big_any n j _ (by omega) (by omega)).mono ?_; rintro e w1 ⟨rfl, hb1⟩)
            go_ret
            refine ⟨ret_bool ?_, hnx.trans (hb1.mono hnx.size)⟩
            rw [unhide HV, Bool.eq_iff_iff]
            have c3 := unhide HC
            simp
            omega
        · have t1 := ht true (by omega) (by rw [hj]; exact (decide_eq_true (by omega)).symm)
          have HJ := hide hj
          clear hj ht hj1 hj4
          go_wp2
          go_roundw
          case rel => exact ⟨j + 1, by omega, by omega, by go_num, fun _ _ => by rw [unhide HJ]; omega, hnx⟩
          case measure => simp [intOf]; omega
      · have hge2 : 256 ≤ n := by have := hge' (by omega); rw [hj] at this; omega
        clear hge'
        have hja : 2 ≤ j := by omega
        have hjb : j ≤ 2 := by omega
        by_cases c1 : n < 65536
        · have hv : validB (n : Int) = (((n : Int) / 256 % 32 == 31) && (decide (31 ≤ (n : Int) % 256) && decide ((n : Int) % 256 ≤ 127))) := by unfold validB; rw [if_neg (by omega), if_neg (by omega), if_pos (by omega)]
          have HV := hide hv
          clear hv
          have t1 := ht false (by omega) (by rw [hj]; simp; omega)
          have ix0 := get_nums (bigL n j) 0 ((n : Int) / 256) (by rw [hj]; simp [bigL]; omega) (by omega) (by omega)
          have ix1 := get_nums (bigL n j) 1 ((n : Int) % 256) (by rw [hj]; simp [bigL]) (by omega) (by omega)
          have HJ := hide hj
          have hsz : j ≤ (strOfNums (bigL n j)).size := by rw [strOfNums_size, bigL_length]; omega
          clear hj ht hj1 hj4
          by_cases c2 : (n : Int) / 256 % 32 = 31
          · have t2 : ((n : Int) / 256 % 32 != 31) = false := by rw [c2]; rfl
            have HC := hide c2
            clear c2
            go_wp2_with (go_at_call 89; refine (big_any n j _ (by omega) (by omega)).mono ?_; rintro e w1 ⟨rfl, hb1⟩)
            · have g2 : 31 ≤ (n : Int) % 256 := by assumption
              go_ret
              exact ⟨ret_bool (by rw [unhide HV, unhide HC]; simp [g2]), hnx.trans (hb1.mono hnx.size)⟩
            · have g2 : (n : Int) % 256 < 31 := by assumption
              go_ret
              exact ⟨ret_bool (by rw [unhide HV, unhide HC]; simp; omega), hnx.trans (hb1.mono hnx.size)⟩
          · have t2 : ((n : Int) / 256 % 32 != 31) = true := by simpa using c2
            have HC := hide c2
            clear c2
            go_wp2_with (go_at_call 89; refine (big_any n j _ (by omega) (by omega)).mono ?_; rintro e w1 ⟨rfl, hb1⟩)
            go_ret
            refine ⟨ret_bool ?_, hnx.trans (hb1.mono hnx.size)⟩
            rw [unhide HV, Bool.eq_iff_iff]
            have c3 := unhide HC
            simp
            omega
        · have t1 := ht true (by omega) (by rw [hj]; exact (decide_eq_true (by omega)).symm)
          have HJ := hide hj
          clear hj ht hj1 hj4
          go_wp2
          go_roundw
          case rel => exact ⟨j + 1, by omega, by omega, by go_num, fun _ _ => by rw [unhide HJ]; omega, hnx⟩
          case measure => simp [intOf]; omega
      · have hge2 : 65536 ≤ n := by have := hge' (by omega); rw [hj] at this; omega
        clear hge'
        have hja : 3 ≤ j := by omega
        have hjb : j ≤ 3 := by omega
        by_cases c1 : n < 16777216
        · have hv : validB (n : Int) = (((n : Int) / 65536 % 32 == 31) && (decide (129 ≤ (n : Int) / 256 % 256) && decide ((n : Int) % 256 ≤ 127))) := by unfold validB; rw [if_neg (by omega), if_neg (by omega), if_neg (by omega)]
          have HV := hide hv
          clear hv
          have t1 := ht false (by omega) (by rw [hj]; simp; omega)
          have ix0 := get_nums (bigL n j) 0 ((n : Int) / 65536) (by rw [hj]; simp [bigL]; omega) (by omega) (by omega)
          have ix1 := get_nums (bigL n j) 1 ((n : Int) / 256 % 256) (by rw [hj]; simp [bigL]) (by omega) (by omega)
          have ix2 := get_nums (bigL n j) 2 ((n : Int) % 256) (by rw [hj]; simp [bigL]) (by omega) (by omega)
          have HJ := hide hj
          have hsz : j ≤ (strOfNums (bigL n j)).size := by rw [strOfNums_size, bigL_length]; omega
          clear hj ht hj1 hj4
          by_cases c2 : (n : Int) / 65536 % 32 = 31
          · have t2 : ((n : Int) / 65536 % 32 != 31) = false := by rw [c2]; rfl
            have HC := hide c2
            clear c2
            go_wp2_with (go_at_call 89; refine (big_any n j _ (by omega) (by omega)).mono ?_; rintro e w1 ⟨rfl, hb1⟩)
            · have g2 : 129 ≤ (n : Int) / 256 % 256 := by assumption
              go_ret
              exact ⟨ret_bool (by rw [unhide HV, unhide HC]; simp [g2]), hnx.trans (hb1.mono hnx.size)⟩
            · have g2 : (n : Int) / 256 % 256 < 129 := by assumption
              go_ret
              exact ⟨ret_bool (by rw [unhide HV, unhide HC]; simp; omega), hnx.trans (hb1.mono hnx.size)⟩
          · have t2 : ((n : Int) / 65536 % 32 != 31) = true := by simpa using c2
            have HC := hide c2
            clear c2
            go_wp2_with (go_at_call 89; refine (big_any n j _ (by omega) (by omega)).mono ?_; rintro e w1 ⟨rfl, hb1⟩)
            go_ret
            refine ⟨ret_bool ?_, hnx.trans (hb1.mono hnx.size)⟩
            rw [unhide HV, Bool.eq_iff_iff]
            have c3 := unhide HC
            simp
            omega
        · have t1 := ht true (by omega) (by rw [hj]; exact (decide_eq_true (by omega)).symm)
          have HJ := hide hj
          clear hj ht hj1 hj4
          go_wp2
          go_roundw
          case rel => exact ⟨j + 1, by omega, by omega, by go_num, fun _ _ => by rw [unhide HJ]; omega, hnx⟩
          case measure => simp [intOf]; omega
      · have hge2 : 16777216 ≤ n := by have := hge' (by omega); rw [hj] at this; omega
        have hja : 4 ≤ j := by omega
        clear hge' ht hj
        have hv : validB (n : Int) = false := by unfold validB; rw [if_pos (by omega)]
        have HV := hide hv
        clear hv
        go_wp2
        go_ret
        exact ⟨ret_bool (unhide HV).symm, hnx⟩
end Go.Proofs.YtajkbkljonejnaaGreatDoor
namespace Go.Proofs.YtajkbkljonejnaaGreatDoor
open Go.RowKit
set_option linter.unusedVariables false
def tagLen (t : Nat) : Nat := if t < 256 then 1 else if t < 65536 then 2 else 3
theorem tagLen_le (t : Nat) : 1 ≤ tagLen t ∧ tagLen t ≤ 3 := by unfold tagLen; split <;> (try split) <;> omega
theorem tagLen_of (t j : Nat) (ht : t < 16777216) (h1 : 1 ≤ j) (h3 : j ≤ 3) (hlo : 1 < j → 256 ^ (j - 1) ≤ t) (hhi : t < 256 ^ j) : tagLen t = j := by
  have : j = 1 ∨ j = 2 ∨ j = 3 := by omega
  unfold tagLen
  rcases this with rfl | rfl | rfl
  · rw [if_pos (by omega)]
  · have := hlo (by omega); rw [if_neg (by omega), if_pos (by omega)]
  · have := hlo (by omega); rw [if_neg (by omega), if_neg (by omega)]
set_option maxRecDepth 100000 in
set_option maxHeartbeats 1000000 in
theorem tagText_any (t : Nat) (w : World) (ht : t < 16777216) :
    Calls Tryz.prog 53 #[.int .i64 t] w fun e w' => e = .returned (.string (strOfNums (bigL t (tagLen t)))) ∧ Below w.heap.size w w' := by
  go_enter Tryz.func53, Tryz.ntmps53
  go_wp2
  go_loop [3] (fun n => ∃ j : Nat, 1 ≤ j ∧ j ≤ 3 ∧ n = .int .i64 j ∧ (1 < j → 256 ^ (j - 1) ≤ t)) (fun n => 4 - (intOf n).toNat)
  case atStart => exact ⟨1, by omega, by omega, rfl, by omega⟩
  case round =>
    obtain ⟨j, h1, h3, rfl, hlo⟩ := hrel
    by_cases hhi : t < 256 ^ j
    · have hj := tagLen_of t j ht h1 h3 hlo hhi
      have t1 : decide (wrap64 (2 ^ (8 * j)) ≤ (t : Int)) = false := by
        have hf' := Int.ofNat_lt.2 hhi
        rw [wrap_pow j (by omega)]; exact decide_eq_false (by omega)
      have HJ := hide hj
      clear hlo hhi hj
      go_wp2_with (go_at_call 89; refine (big_any t j _ (by omega) (by omega)).mono ?_; rintro e w1 ⟨rfl, hb1⟩)
      go_ret
      exact ⟨by rw [unhide HJ]; rfl, hb1⟩
    · have hge : 256 ^ j ≤ t := by omega
      have hj2 : j ≤ 2 := by
        rcases Nat.lt_or_ge j 3 with h | h
        · omega
        · have : j = 3 := by omega
          subst this
          omega
      have t1 : decide (wrap64 (2 ^ (8 * j)) ≤ (t : Int)) = true := by
        have hf' := Int.ofNat_le.2 hge
        rw [wrap_pow j (by omega)]; exact decide_eq_true (by omega)
      have HG := hide hge
      clear hlo hhi hge
      go_wp2
      go_round
      case rel => exact ⟨j + 1, by omega, by omega, by go_num, fun _ => by rw [Nat.add_sub_cancel]; exact unhide HG⟩
      case measure => simp [intOf]; omega
def firstB (t : Nat) : Nat := t / 256 ^ (tagLen t - 1)
def madeB (t : Nat) : Bool := firstB t / 32 % 2 == 1
theorem firstB_lt (t : Nat) (ht : t < 16777216) : firstB t < 256 := by
  unfold firstB tagLen
  split
  · simpa using ‹_›
  · split
    · simp; omega
    · simp; omega
theorem bigL_first (t : Nat) (ht : t < 16777216) : (bigL t (tagLen t))[0]? = some (firstB t : Int) := by
  have hf := firstB_lt t ht
  obtain ⟨k, hk⟩ : ∃ k, tagLen t = k + 1 := ⟨tagLen t - 1, by have := (tagLen_le t).1; omega⟩
  unfold firstB at *
  rw [hk] at hf ⊢
  simp only [bigL, List.getElem?_cons_zero, Nat.add_sub_cancel] at hf ⊢
  rw [Nat.mod_eq_of_lt hf]
set_option maxRecDepth 100000 in
theorem rmade_any (t : Nat) (w : World) (ht : t < 16777216) :
    Calls Tryz.prog 52 #[.int .i64 t] w fun e w' => e = .returned (.bool (madeB t)) ∧ Below w.heap.size w w' := by
  have hf := firstB_lt t ht
  have ix := get_nums (bigL t (tagLen t)) 0 (firstB t) (bigL_first t ht) (by omega) (by omega)
  have hsz : 1 ≤ (strOfNums (bigL t (tagLen t))).size := by rw [strOfNums_size, bigL_length]; exact (tagLen_le t).1
  have n1 := fun w => tagText_any t w ht
  have hr : madeB t = (((firstB t : Int) / 32 % 2) == 1) := by unfold madeB; rw [Bool.eq_iff_iff]; simp; omega
  have HR := hide hr
  generalize strOfNums (bigL t (tagLen t)) = s at *
  generalize firstB t = f at *
  have N1 := hide n1
  clear n1 hr
  go_enter Tryz.func52, Tryz.ntmps52
  go_wp2_with fail
  refine (unhide N1 _).mono ?_
  rintro e w1 ⟨rfl, hb1⟩
  go_wp2
  go_ret
  exact ⟨ret_bool (by rw [unhide HR]), hb1⟩
theorem and_32 : ∀ f : Fin 256, bits .and .i64 (f.val : Int) 32 = ((f.val / 32 % 2 * 32 : Nat) : Int) := by decide +kernel
set_option maxRecDepth 100000 in
theorem made_any (t : Nat) (w : World) (ht : t < 16777216) (hval : validB (t : Int) = true) :
    Calls Tryz.prog 123 #[.int .i64 t] w fun e w' => e = .returned (.bool (madeB t)) ∧ w' = w := by
  have hf := firstB_lt t ht
  have h32 := and_32 ⟨firstB t, hf⟩
  simp only at h32
  have hr : madeB t = (((firstB t / 32 % 2 * 32 : Nat) : Int) != 0) := by unfold madeB; rw [Bool.eq_iff_iff]; simp; omega
  have HR := hide hr
  have n0 := fun w => valid_any (t : Int) w (by omega)
  rw [hval] at n0
  have N0 := hide n0
  clear hr n0 hval
  go_enter Tryz.func123, Tryz.ntmps123
  go_wp2_with fail
  refine (unhide N0 _).mono ?_
  rintro e w1 ⟨rfl, hw1⟩
  subst hw1
  go_wp2
  go_loop [3] (fun n => ∃ j : Nat, j < tagLen t ∧ n = .int .i64 (t / 256 ^ j : Nat)) (fun n => (intOf n).toNat)
  case atStart => exact ⟨0, (tagLen_le t).1, by simp⟩
  case round =>
    obtain ⟨j, hj, rfl⟩ := hrel
    have hj3 := (tagLen_le t).2
    have hv : t / 256 ^ j < 16777216 := Nat.lt_of_le_of_lt (Nat.div_le_self _ _) ht
    have hdiv : t / 256 ^ (j + 1) = t / 256 ^ j / 256 := by rw [Nat.pow_succ, Nat.div_div_eq_div_mul]
    by_cases hb : 255 < t / 256 ^ j
    · have hnext : j + 1 < tagLen t := by
        rcases Nat.lt_or_ge (j + 1) (tagLen t) with h | h
        · exact h
        · exfalso
          have : j = tagLen t - 1 := by omega
          have hf' := hf
          unfold firstB at hf'
          rw [← this] at hf'
          omega
      have HD := hide hdiv
      have HN := hide hnext
      generalize t / 256 ^ j = v at *
      clear hdiv hnext hj
      go_wp2
      go_round
      case rel => exact ⟨j + 1, unhide HN, by rw [unhide HD]; rfl⟩
      case measure => simp [intOf]; omega
    · have hfe : firstB t = t / 256 ^ j := by
        have hjl : j + 1 = tagLen t := by
          rcases Nat.lt_or_ge (j + 1) (tagLen t) with h | h
          · exfalso
            have h2 : tagLen t = 2 ∨ tagLen t = 3 := by omega
            have hp : 256 ^ (j + 1) ≤ t := by
              unfold tagLen at h h2
              have : j = 0 ∨ j = 1 := by omega
              rcases this with rfl | rfl
              · split at h
                · omega
                · simp; omega
              · split at h
                · omega
                · split at h
                  · omega
                  · simp; omega
            have := Nat.div_le_div_right (c := 256 ^ j) hp
            rw [Nat.pow_succ, Nat.mul_div_cancel_left _ (Nat.pow_pos (by decide))] at this
            omega
          · omega
        unfold firstB
        rw [← hjl, Nat.add_sub_cancel]
      rw [hfe] at h32 HR
      generalize t / 256 ^ j = v at *
      generalize v / 32 % 2 * 32 = u at *
      clear hdiv hfe
      go_wp2
      go_ret
      exact ⟨ret_bool (by rw [unhide HR]), rfl⟩
theorem validB_lt {t : Int} (h : validB t = true) : 1 ≤ t ∧ t < 16777216 := by
  unfold validB at h
  by_cases hc : t < 1 ∨ 16777216 ≤ t
  · rw [if_pos hc] at h; simp at h
  · omega
end Go.Proofs.YtajkbkljonejnaaGreatDoor
