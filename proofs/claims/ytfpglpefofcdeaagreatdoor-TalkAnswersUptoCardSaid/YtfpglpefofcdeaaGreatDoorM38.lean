/- An answer's text, by the document's own: what has been written so far; its end. -/
import Derived.Test.YtfpglpefofcdeaaGreatDoorM37
import Derived.Test.YtfpglpefofcdeaaGreatDoorM34
import Derived.RegionTactic
import Derived.Deep.DeepCutAuto
namespace Go.Proofs.YtfpglpefofcdeaaGreatDoor
open Go.RowKit
set_option linter.unusedVariables false
set_option linter.unusedSimpArgs false
set_option maxRecDepth 100000

/-- how far the document's Answer has come: the answer, far, in, long, text -/
structure AnSt (w : World) (b F I G X : Nat) (a : An) (far : Bool) (L : List (Int × ByteArray)) : Prop where
  box : w.heap[b]? = some (.cells (anC a) 37 (0, 0))
  far : w.heap[F]? = some (.cells #[.bool far] 4 (0, 0))
  inn : w.heap[I]? = some (.cells #[.string (inL L)] 9 (0, 0))
  lng : w.heap[G]? = some (.cells #[.bool (longL L)] 4 (0, 0))
  txt : w.heap[X]? = some (.cells #[.func (.func 20) #[] #[.pointer (some ⟨G, 0, none⟩), .pointer (some ⟨I, 0, none⟩)]] 63 (0, 0))
  o1 : b < F
  o2 : F < I
  o3 : I < G
  o4 : G < X
theorem AnSt.keep {w w' : World} {b F I G X : Nat} {a : An} {far : Bool} {L : List (Int × ByteArray)} (h : AnSt w b F I G X a far L) (hb : Below w.heap.size w w') : AnSt w' b F I G X a far L :=
  ⟨(hb.block _ (block_ltQ h.box)).trans h.box, (hb.block _ (block_ltQ h.far)).trans h.far, (hb.block _ (block_ltQ h.inn)).trans h.inn, (hb.block _ (block_ltQ h.lng)).trans h.lng, (hb.block _ (block_ltQ h.txt)).trans h.txt, h.o1, h.o2, h.o3, h.o4⟩
theorem longL_app (L : List (Int × ByteArray)) (t : Int) (s : ByteArray) : longL (L ++ [(t, s)]) = (longL L || decide (65535 < s.size)) := by
  unfold longL; rw [List.any_append]; simp
theorem inL_snoc (L : List (Int × ByteArray)) (t : Int) (s : ByteArray) : inL (L ++ [(t, s)]) = inL L ++ itS t s := by rw [inL_app, inL_one]
/-- a text more -/
theorem AnSt.text {w : World} {b F I G X : Nat} {a : An} {far : Bool} {L : List (Int × ByteArray)} (h : AnSt w b F I G X a far L) (t : Int) (s : ByteArray) (ht : 0 ≤ t ∧ t < 256) (hs : s.size ≤ 9000000) (hx : (inL L).size ≤ 100000000) :
    Calls Tryz.prog 20 #[.int .i64 t, .string s, .pointer (some ⟨G, 0, none⟩), .pointer (some ⟨I, 0, none⟩)] w fun e w' => e = .returned (.tuple #[]) ∧ AnSt w' b F I G X a far (L ++ [(t, s)]) ∧ Below F w w' := by
  have o1 := h.o1; have o2 := h.o2; have o3 := h.o3; have o4 := h.o4
  refine (rtext_any t s G I (longL L) (inL L) w h.lng h.inn (by omega) ht hs hx).mono ?_
  rintro e w' ⟨rfl, hG, hI, hE⟩
  rw [← longL_app L t s] at hG
  rw [← inL_snoc] at hI
  exact ⟨rfl, ⟨hE.row h.box (by omega), hE.row h.far (by omega), hI, hG, hE.row h.txt (by omega), o1, o2, o3, o4⟩, hE.below (by have := block_ltQ h.far; omega) (by omega)⟩
/-- is a number too great for its bytes? -/
def farN (n : Int) (k : Nat) : Bool := decide (n < 0) || decide (((256 ^ k : Nat) : Int) ≤ n)
def bigT (n : Int) (k : Nat) : ByteArray := strOfNums (bigL n.toNat k)
/-- a number more -/
theorem AnSt.num {w : World} {b F I G X : Nat} {a : An} {far : Bool} {L : List (Int × ByteArray)} (h : AnSt w b F I G X a far L) (t n : Int) (k : Nat) (hk : k = 1 ∨ k = 2) (ht : 0 ≤ t ∧ t < 256) (hn : n ≤ 9223372036854775807) (hx : (inL L).size ≤ 100000000) :
    Calls Tryz.prog 21 #[.int .i64 t, .int .i64 n, .int .i64 (k : Int), .pointer (some ⟨F, 0, none⟩), .pointer (some ⟨X, 0, none⟩)] w fun e w' => e = .returned (.tuple #[]) ∧ AnSt w' b F I G X a (far || farN n k) (L ++ [(t, bigT n k)]) ∧ Below F w w' := by
  have o1 := h.o1; have o2 := h.o2; have o3 := h.o3; have o4 := h.o4
  refine (rnumA_any t n k ((256 ^ k : Nat) : Int) (by rcases hk with rfl | rfl <;> simp) F X G I far (longL L) (inL L) w h.far h.txt h.lng h.inn (by omega) (by omega) (by omega) (by omega) (by omega) (by omega) ht hn hx).mono ?_
  rintro e w' ⟨rfl, hF, hG, hI, hE⟩
  have hz : (bigT n k).size = k := by unfold bigT; rw [strOfNums_size, bigL_length]
  have hl : longL (L ++ [(t, bigT n k)]) = longL L := by rw [longL_app, hz, decide_eq_false (by omega)]; simp
  rw [← hl] at hG
  have hi : inL (L ++ [(t, bigT n k)]) = inL L ++ itS t (strOfNums (bigL n.toNat k)) := inL_snoc _ _ _
  rw [← hi] at hI
  have hf : (far || decide (n < 0) || decide (((256 ^ k : Nat) : Int) ≤ n)) = (far || farN n k) := by unfold farN; rw [Bool.or_assoc]
  rw [hf] at hF
  exact ⟨rfl, ⟨hE.row h.box (by omega), hF, hI, hG, hE.row h.txt (by omega), o1, o2, o3, o4⟩, hE.below (by have := block_ltQ h.far; omega) (by omega)⟩
theorem farN_no {n : Int} {k : Nat} (h1 : 1 ≤ k) (h8 : k ≤ 8) (h : farN n k = false) : numE n k = 0 ∧ bigT n k = numS n k := by
  unfold farN at h
  obtain ⟨h0, h2⟩ := Bool.or_eq_false_iff.1 h
  have h0 := of_decide_eq_false h0
  have h2 := of_decide_eq_false h2
  obtain ⟨m, rfl⟩ := Int.eq_ofNat_of_zero_le (by omega : 0 ≤ n)
  have hm : m < 256 ^ k := by
    have : ¬ ((256 ^ k : Nat) : Int) ≤ (m : Int) := h2
    omega
  exact ⟨numE_yes ((numOk_nat m k h1 h8).2 hm), big_num m k h1 h8 hm⟩
theorem farN_yes {n : Int} {k : Nat} (h1 : 1 ≤ k) (h8 : k ≤ 8) (h : farN n k = true) : numE n k = 3 := by
  refine numE_no (fun hk => ?_)
  unfold farN at h
  rcases Bool.or_eq_true_iff.1 h with h0 | h2
  · have h0 := of_decide_eq_true h0
    have := hk.1
    omega
  · have h2 := of_decide_eq_true h2
    obtain ⟨m, rfl⟩ := Int.eq_ofNat_of_zero_le (by have : (0 : Int) ≤ ((256 ^ k : Nat) : Int) := Int.natCast_nonneg _; omega : 0 ≤ n)
    have := (numOk_nat m k h1 h8).1 hk
    have h3 : ((256 ^ k : Nat) : Int) ≤ (m : Int) := h2
    omega
/-- what the document's Answer says at its end -/
def endE (far : Bool) (late : Int) (L : List (Int × ByteArray)) : Int := if far = true then 3 else if late ≠ 0 then late else if longL L = true then 2 else outE 162 (inL L)
def endS (far : Bool) (late : Int) (L : List (Int × ByteArray)) : ByteArray := if far = true then ⟨#[]⟩ else if late ≠ 0 then ⟨#[]⟩ else if longL L = true then ⟨#[]⟩ else outS 162 (inL L)
theorem end_same {a : An} {far : Bool} {late : Int} {L : List (Int × ByteArray)} (hd : inT a.dO 1 7 = true) (hW : ansW a = if far = true then 3 else late) (hL : far = false → late = 0 → L = ansL a) : answerE a = endE far late L ∧ answerS a = endS far late L := by
  have e1 : answerE a = tellE 162 (ansL a) (ansW a) := by unfold answerE; rw [hd]; rfl
  have e2 : answerS a = tellS 162 (ansL a) (ansW a) := by unfold answerS; rw [hd]; rfl
  rw [e1, e2]
  unfold endE endS
  cases far with
  | true =>
    rw [if_pos rfl] at hW
    rw [hW]
    exact tell_wrongA (by decide)
  | false =>
    simp only [Bool.false_eq_true, if_false] at hW ⊢
    rw [hW]
    by_cases hl : late = 0
    · subst hl
      simp only [ne_eq, not_true, if_false]
      rw [hL rfl rfl]
      have h := tellA (goodL_ans a)
      rw [h.1, h.2]
      cases longL (ansL a) <;> exact ⟨rfl, rfl⟩
    · rw [if_pos hl, if_pos hl]
      exact tell_wrongA hl
end Go.Proofs.YtfpglpefofcdeaaGreatDoor
namespace Go.Proofs.YtfpglpefofcdeaaGreatDoor
open Go.RowKit
set_option linter.unusedVariables false
set_option linter.unusedSimpArgs false
set_option maxRecDepth 100000

/-- what is written of every answer -/
def docL0 (a : An) : List (Int × ByteArray) := [(128, strOfNums [lowByte a.er]), (129, strOfNums [a.dO])]
theorem do_one {a : An} (hd : inT a.dO 1 7 = true) : numS a.dO 1 = strOfNums [a.dO] ∧ numE a.dO 1 = 0 := num_one (by have := inT_true.1 hd; omega)
theorem far1 {n : Int} : farN n 1 = (decide (n < 0) || decide (255 < n)) := by
  unfold farN
  congr 1
theorem docL0_same {a : An} (hd : inT a.dO 1 7 = true) (hf : farN a.er 1 = false) : docL0 a = ansL0 a ∧ ansW0 a = 0 := by
  have h0 : 0 ≤ a.er ∧ a.er ≤ 255 := by
    rw [far1] at hf
    obtain ⟨h1, h2⟩ := Bool.or_eq_false_iff.1 hf
    have := of_decide_eq_false h1; have := of_decide_eq_false h2
    omega
  obtain ⟨e1, e2⟩ := num_one h0
  obtain ⟨d1, d2⟩ := do_one hd
  unfold docL0 ansL0 ansW0
  rw [low_same h0, e1, e2, d1, d2]
  exact ⟨rfl, rfl⟩
theorem docW0_far {a : An} (hd : inT a.dO 1 7 = true) (hf : farN a.er 1 = true) : ansW a = 3 := by
  have h3 := farN_yes (n := a.er) (k := 1) (by decide) (by decide) hf
  have hr : ¬ (0 ≤ a.er ∧ a.er ≤ 255) := by
    rw [far1] at hf
    rcases Bool.or_eq_true_iff.1 hf with h1 | h2
    · have := of_decide_eq_true h1; omega
    · have := of_decide_eq_true h2; omega
  unfold ansW
  rw [if_neg (by omega), if_neg (by omega)]
  unfold ansW0
  have h3' : numE a.er 1 = 3 := h3
  rw [h3']
  rfl
theorem er_zero {a : An} (h : a.er = 0) : farN a.er 1 = false := by rw [h]; decide
theorem end_none {a : An} (hd : inT a.dO 1 7 = true) (h1 : ¬ (a.er = 0 ∧ (a.dO = 1 ∨ a.dO = 3 ∨ a.dO = 5 ∨ a.dO = 6))) (h4 : ¬ (a.dO = 4 ∧ (a.er = 0 ∨ a.er = 10))) : (ansW a = if farN a.er 1 = true then 3 else 0) ∧ (farN a.er 1 = false → (0 : Int) = 0 → docL0 a = ansL a) := by
  cases hf : farN a.er 1 with
  | true => exact ⟨by rw [if_pos rfl]; exact docW0_far hd hf, fun h => by cases h⟩
  | false =>
    obtain ⟨e1, e2⟩ := docL0_same hd hf
    rw [if_neg (by decide), e1]
    unfold ansW ansL
    by_cases h0 : a.er = 0
    · rw [if_pos h0, if_pos h0]
      unfold addW addL
      rw [if_neg (by omega), if_neg (by omega), if_neg (by omega), if_neg (by omega), if_neg (by omega), if_neg (by omega), if_neg (by omega), if_neg (by omega), e2]
      exact ⟨rfl, fun _ _ => by rw [List.append_nil]⟩
    · rw [if_neg h0, if_neg h0, if_neg (by omega), if_neg (by omega), e2]
      exact ⟨rfl, fun _ _ => rfl⟩
theorem end_apps {a : An} (hd : inT a.dO 1 7 = true) (h0 : a.er = 0) (h1 : a.dO = 1) : (ansW a = if farN a.er 1 = true then 3 else appsE a.apps) ∧ (farN a.er 1 = false → appsE a.apps = 0 → docL0 a ++ [(130, appsS a.apps)] = ansL a) := by
  have hf := er_zero h0
  obtain ⟨e1, e2⟩ := docL0_same hd hf
  rw [hf, if_neg (by decide), e1]
  unfold ansW ansL
  rw [if_pos h0, if_pos h0]
  unfold addW addL
  rw [if_pos h1, if_pos h1, e2]
  exact ⟨rfl, fun _ _ => rfl⟩
theorem end_left {a : An} (hd : inT a.dO 1 7 = true) (h4 : a.dO = 4) (h0 : a.er = 0 ∨ a.er = 10) : (ansW a = if (farN a.er 1 || farN a.left 1) = true then 3 else 0) ∧ ((farN a.er 1 || farN a.left 1) = false → (0 : Int) = 0 → docL0 a ++ [(138, bigT a.left 1)] = ansL a) := by
  have hf : farN a.er 1 = false := by rcases h0 with h | h <;> (rw [h]; decide)
  obtain ⟨e1, e2⟩ := docL0_same hd hf
  rw [hf, Bool.false_or, e1]
  have hw : ansW a = blE 0 (numE a.left 1) ∧ ansL a = ansL0 a ++ [(138, numS a.left 1)] := by
    unfold ansW ansL
    rcases h0 with h | h
    · rw [if_pos h, if_pos h]
      unfold addW addL
      rw [if_neg (by omega), if_neg (by omega), if_pos h4, if_neg (by omega), if_neg (by omega), if_pos h4, e2]
      exact ⟨rfl, rfl⟩
    · have n0 : ¬ a.er = 0 := by omega
      have c4 : a.er = 10 ∧ a.dO = 4 := ⟨h, h4⟩
      rw [if_neg n0, if_neg n0, if_pos c4, if_pos c4, e2]
      exact ⟨rfl, rfl⟩
  rw [hw.1, hw.2]
  cases hl : farN a.left 1 with
  | true =>
    have h3 : numE a.left 1 = 3 := farN_yes (k := 1) (by decide) (by decide) hl
    rw [h3]
    exact ⟨rfl, fun h => by cases h⟩
  | false =>
    obtain ⟨h3, h5⟩ := farN_no (k := 1) (by decide) (by decide) hl
    have h3' : numE a.left 1 = 0 := h3
    have h5' : bigT a.left 1 = numS a.left 1 := h5
    rw [h3', h5']
    exact ⟨rfl, fun _ _ => rfl⟩
theorem bl_far {x y : Int} {p q : Bool} (hx : x = if p = true then 3 else 0) (hy : y = if q = true then 3 else 0) (z : Int) : blE (blE (blE 0 x) y) z = if (p || q) = true then 3 else z := by
  subst hx hy
  cases p <;> cases q <;> rfl
theorem numFar2 {n : Int} {k : Nat} (h1 : 1 ≤ k) (h8 : k ≤ 8) : numE n k = if farN n k = true then 3 else 0 := by
  cases hl : farN n k with
  | true => rw [if_pos rfl]; exact farN_yes h1 h8 hl
  | false => rw [if_neg (by decide)]; exact (farN_no h1 h8 hl).1
theorem end_file {a : An} (hd : inT a.dO 1 7 = true) (h0 : a.er = 0) (h3 : a.dO = 3) : (ansW a = if (farN a.er 1 || farN a.count 2 || farN a.last 2) = true then 3 else fileE a.fl) ∧
    ((farN a.er 1 || farN a.count 2 || farN a.last 2) = false → fileE a.fl = 0 → docL0 a ++ [(131, bigT a.count 2)] ++ [(132, bigT a.last 2)] ++ [(133, fileS a.fl)] ++ [(134, a.fl.isig)] ++ [(135, a.fl.irest)] ++ [(136, a.fl.csig)] ++ [(137, a.fl.crest)] = ansL a) := by
  have hf := er_zero h0
  obtain ⟨e1, e2⟩ := docL0_same hd hf
  rw [hf, Bool.false_or, e1]
  have hw : ansW a = blE (blE (blE 0 (numE a.count 2)) (numE a.last 2)) (fileE a.fl) ∧ ansL a = ansL0 a ++ [(131, numS a.count 2), (132, numS a.last 2), (133, fileS a.fl), (134, a.fl.isig), (135, a.fl.irest), (136, a.fl.csig), (137, a.fl.crest)] := by
    unfold ansW ansL
    rw [if_pos h0, if_pos h0]
    unfold addW addL
    rw [if_neg (by omega), if_pos h3, if_neg (by omega), if_pos h3, e2]
    exact ⟨rfl, rfl⟩
  rw [hw.1, hw.2]
  refine ⟨bl_far (numFar2 (k := 2) (by decide) (by decide)) (numFar2 (k := 2) (by decide) (by decide)) _, fun h _ => ?_⟩
  obtain ⟨g1, g2⟩ := Bool.or_eq_false_iff.1 h
  have k1 : bigT a.count 2 = numS a.count 2 := (farN_no (k := 2) (by decide) (by decide) g1).2
  have k2 : bigT a.last 2 = numS a.last 2 := (farN_no (k := 2) (by decide) (by decide) g2).2
  rw [k1, k2]
  simp [List.append_assoc]
theorem blE_nil (x : Int) : blE x 0 = x := by
  unfold blE
  split
  · rename_i h; exact h.symm
  · rfl
theorem end_reply {a : An} (hd : inT a.dO 1 7 = true) (h0 : a.er = 0) (h5 : a.dO = 5 ∨ a.dO = 6) : (ansW a = if (farN a.er 1 || farN a.kind 1 || farN a.rcount 2) = true then 3 else 0) ∧
    ((farN a.er 1 || farN a.kind 1 || farN a.rcount 2) = false → (0 : Int) = 0 → docL0 a ++ [(139, bigT a.kind 1)] ++ [(140, bigT a.rcount 2)] ++ [(141, a.sl)] ++ [(142, a.bsig)] ++ [(143, a.brest)] = ansL a) := by
  have hf := er_zero h0
  obtain ⟨e1, e2⟩ := docL0_same hd hf
  rw [hf, Bool.false_or, e1]
  have hw : ansW a = blE (blE 0 (numE a.kind 1)) (numE a.rcount 2) ∧ ansL a = ansL0 a ++ [(139, numS a.kind 1), (140, numS a.rcount 2), (141, a.sl), (142, a.bsig), (143, a.brest)] := by
    unfold ansW ansL
    rw [if_pos h0, if_pos h0]
    unfold addW addL
    rw [if_neg (by omega), if_neg (by omega), if_neg (by omega), if_pos h5, if_neg (by omega), if_neg (by omega), if_neg (by omega), if_pos h5, e2]
    exact ⟨rfl, rfl⟩
  rw [hw.1, hw.2]
  have hb := bl_far (numFar2 (n := a.kind) (k := 1) (by decide) (by decide)) (numFar2 (n := a.rcount) (k := 2) (by decide) (by decide)) 0
  have hb' : blE (blE 0 (numE a.kind 1)) (numE a.rcount 2) = if (farN a.kind 1 || farN a.rcount 2) = true then 3 else 0 := by
    exact (blE_nil _).symm.trans hb
  refine ⟨hb', fun h _ => ?_⟩
  obtain ⟨g1, g2⟩ := Bool.or_eq_false_iff.1 h
  have k1 : bigT a.kind 1 = numS a.kind 1 := (farN_no (k := 1) (by decide) (by decide) g1).2
  have k2 : bigT a.rcount 2 = numS a.rcount 2 := (farN_no (k := 2) (by decide) (by decide) g2).2
  rw [k1, k2]
  simp [List.append_assoc]
theorem inL_bound : ∀ (L : List (Int × ByteArray)), (inL L).size ≤ wtL L + 20 * L.length
  | [] => Nat.zero_le _
  | x :: r => by
    have ih := inL_bound r
    have e : (inL (x :: r)).size = (itS x.1 x.2).size + (inL r).size := by
      show (itS x.1 x.2 ++ inL r).size = _
      exact ByteArray.size_append
    have h1 := itS_size x.1 x.2
    have hlz : lenLen x.2.size ≤ 10 := by unfold lenLen; split <;> (try split) <;> omega
    have h2 : x.2.size ≤ wtL [x] := by simp only [wtL, List.map_cons, List.map_nil, List.sum_cons, List.sum_nil]; omega
    have h3 : wtL (x :: r) = wtL [x] + wtL r := wtL_append [x] r
    rw [e, h1, h3, List.length_cons]
    omega
end Go.Proofs.YtfpglpefofcdeaaGreatDoor
namespace Go.Proofs.YtfpglpefofcdeaaGreatDoor
set_option linter.unusedVariables false
/-- How many have not come up yet. -/
def leftN (n : Nat) (listed : Array Bool) : Nat := (List.range n).countP (fun i => !listed.getD i true)
theorem countP_ltD {p q : Nat → Bool} (h : ∀ x, q x = true → p x = true) {i : Nat} (hp : p i = true) (hq : q i = false) : ∀ {l : List Nat}, i ∈ l → l.countP q < l.countP p := by
  intro l
  induction l with
  | nil => intro hi; cases hi
  | cons x l ih =>
    intro hi
    have hm : l.countP q ≤ l.countP p := List.countP_mono_left (fun x _ => h x)
    rw [List.countP_cons, List.countP_cons]
    rcases List.mem_cons.1 hi with rfl | hi
    · rw [hp, hq]; simp; omega
    · have := ih hi
      cases hx : q x with
      | false => simp; omega
      | true => rw [h x hx]; simp; omega
theorem leftN_lt {md : Region.Mode} {ops : Array Oper} {listed : Array Bool} {i : Nat} (h : i ∈ Region.ready md ops listed) : leftN ops.size (listed.setIfInBounds i true) < leftN ops.size listed := by
  obtain ⟨h0, o, ho, _⟩ := mem_ready.1 h
  have hi : i < ops.size := by
    rcases Nat.lt_or_ge i ops.size with h' | h'
    · exact h'
    · rw [Array.getElem?_eq_none h'] at ho; cases ho
  refine countP_ltD (i := i) (fun x hx => ?_) (by rw [h0]; rfl) ?_ (List.mem_range.2 hi)
  · by_cases hxi : i = x
    · subst hxi; rw [h0]; rfl
    · rw [getD_set_ne true hxi] at hx; exact hx
  · have hs : i < listed.size := by
      rcases Nat.lt_or_ge i listed.size with h' | h'
      · exact h'
      · simp [h'] at h0
    simp [hs]
theorem wpAny_inv {P : Program} {ops : Array Oper} {Q : Exit → Act → World → Prop} {md : Region.Mode} (Inv : Array Bool → Act → World → Prop)
    (hstep : ∀ listed a w i, Inv listed a w → i ∈ Region.ready md ops listed → wpOp P ops Q i (Inv (listed.setIfInBounds i true)) a w)
    (hend : ∀ listed a w, Inv listed a w → Region.ready md ops listed = [] → Q .normal a w) :
    ∀ fuel listed a w, leftN ops.size listed ≤ fuel → Inv listed a w → wpAny P md ops Q fuel listed a w := by
  intro fuel
  induction fuel with
  | zero =>
    intro listed a w hl hi
    have hr : Region.ready md ops listed = [] := by
      rw [List.eq_nil_iff_forall_not_mem]
      intro i h
      have := leftN_lt h
      omega
    exact ⟨hr, hend _ _ _ hi hr⟩
  | succ fuel ih =>
    intro listed a w hl hi
    refine ⟨hend _ _ _ hi, fun i h => wpOp_mono (fun a' w' h' => ih _ a' w' ?_ h') (hstep _ _ _ i hi h)⟩
    have := leftN_lt h
    omega
/-- Where operation k leaves its value. -/
def dstOf (ops : Array Oper) (k : Nat) : Option Nat := (ops[k]?).bind (·.dst)
/-- No operation writes this slot. -/
def offD (ops : Array Oper) (t : Nat) : Bool := ops.all (fun o => o.dst != some t)
/-- Operation k waits for operation j. -/
def waits (ops : Array Oper) (k j : Nat) : Bool := ((ops[k]?).map (fun o => o.after.any (fun e => Region.binds .any e && e.on == j))).getD false
def inOrder (ops : Array Oper) : Bool := (List.range ops.size).all (fun i => ((ops[i]?).map (fun o => o.guard.isNone && o.after.all (fun e => decide (e.on < i)))).getD true)
def apartD (ops : Array Oper) (N : Nat) : Bool := (List.range ops.size).all (fun i => match dstOf ops i with | none => true | some d => decide (d < N) && (List.range ops.size).all (fun j => j == i || dstOf ops j != some d))
/-- What operation o does in state a: it comes to a value, or to nothing, or calls. -/
inductive Does (P : Program) (o : Oper) (a : Act) (w : World) (R : Value → World → Prop) : Prop where
  | value (v : Value) (w' : World) (h : (execOp a.eval o).run P w = .ok (.value v) w') (hr : R v w') : Does P o a w R
  | skip (w' : World) (h : (execOp a.eval o).run P w = .ok .skip w') (hr : R undef w') : Does P o a w R
  | call (f : FuncId) (args : Array Value) (h : (execOp a.eval o).run P w = .ok (.enter f args) w) (hr : Calls P f args w fun e w' => ∃ v, e = .returned v ∧ R v w') : Does P o a w R
theorem Does.wp {P : Program} {o : Oper} {a : Act} {w : World} {R : Value → World → Prop} {K : Act → World → Prop} {Q : Exit → Act → World → Prop} (h : Does P o a w R) (hk : ∀ v w', R v w' → K (a.put o.dst v) w') : Oper.wp P o a w K Q := by
  unfold Oper.wp
  cases h with
  | value v w' h hr => rw [h]; exact hk _ _ hr
  | skip w' h hr => rw [h]; exact hk _ _ hr
  | call f args h hr =>
    rw [h, Oper.upon_enter]
    refine hr.mono fun e w' hh => ?_
    obtain ⟨v, rfl, hk'⟩ := hh
    exact hk _ _ hk'
/-- What is known of operation k once it has come up: of its value, of what lies in slot c, of the world. -/
def HasD (ops : Array Oper) (c : Nat) (Φ : Nat → Value → Value → World → Prop) (k : Nat) (a : Act) (w : World) : Prop :=
  Φ k ((dstOf ops k).elim undef (fun d => a.eval (.tmp d))) (a.eval (.tmp c)) w
def StepD (P : Program) (ops : Array Oper) (c : Nat) (G : World → Prop) (Φ : Nat → Value → Value → World → Prop) (a0 : Act) (i : Nat) (o : Oper) : Prop :=
  ∀ (a : Act) (w : World), G w → (∀ j, waits ops i j = true → HasD ops c Φ j a w) → (∀ t, offD ops t = true → a.eval (.tmp t) = a0.eval (.tmp t)) →
    Does P o a w fun v w' => G w' ∧ Φ i (o.dst.elim undef (fun _ => v)) (if o.dst = some c then v else a.eval (.tmp c)) w' ∧ ∀ k y, waits ops k i = false → Φ k y (a.eval (.tmp c)) w → Φ k y (if o.dst = some c then v else a.eval (.tmp c)) w'
def StepsD (P : Program) (ops : Array Oper) (c : Nat) (G : World → Prop) (Φ : Nat → Value → Value → World → Prop) (a0 : Act) : Nat → List Oper → Prop
  | _, [] => True
  | i, o :: l => StepD P ops c G Φ a0 i o ∧ StepsD P ops c G Φ a0 (i + 1) l
theorem StepsD.at {P : Program} {ops : Array Oper} {c : Nat} {G : World → Prop} {Φ : Nat → Value → Value → World → Prop} {a0 : Act} : ∀ {l : List Oper} {i : Nat}, StepsD P ops c G Φ a0 i l → ∀ {k : Nat} {o : Oper}, l[k]? = some o → StepD P ops c G Φ a0 (i + k) o
  | [], _, _, k, o, h => by cases h
  | x :: l, i, hs, 0, o, h => by cases h; exact hs.1
  | x :: l, i, hs, k + 1, o, h => by
    have := StepsD.at hs.2 (k := k) (o := o) (by simpa using h)
    rw [Nat.add_assoc, Nat.add_comm 1 k] at this
    exact this
theorem put_evalD (a : Act) (d : Option Nat) (v : Value) (t : Nat) (hN : ∀ d', d = some d' → d' < a.tmps.size) : (a.put d v).eval (.tmp t) = if d = some t then v else a.eval (.tmp t) := by
  cases d with
  | none => simp [Act.put]
  | some d =>
    have hd := hN d rfl
    show (a.tmps.setIfInBounds d v).getD t undef = _
    by_cases h : d = t
    · subst h; simp [hd]
    · have : ¬ (some d = some t) := fun e => h (Option.some.inj e)
      rw [if_neg this]
      show _ = a.tmps.getD t undef
      simp [Array.getElem?_setIfInBounds_ne h]
theorem put_atD (a : Act) (d : Option Nat) (v : Value) (t : Nat) (h : d ≠ some t) : (a.put d v).tmps[t]? = a.tmps[t]? := by
  cases d with
  | none => rfl
  | some d =>
    have : d ≠ t := fun e => h (by rw [e])
    show (a.tmps.setIfInBounds d v)[t]? = _
    simp [Array.getElem?_setIfInBounds_ne this]
theorem put_sizeD (a : Act) (d : Option Nat) (v : Value) : (a.put d v).tmps.size = a.tmps.size := by
  cases d with
  | none => rfl
  | some d => show (a.tmps.setIfInBounds d v).size = _; simp
theorem put_defersD (a : Act) (d : Option Nat) (v : Value) : (a.put d v).defers = a.defers := by cases d <;> rfl
/-- All have come up, where none may and each waits for earlier ones alone. -/
theorem all_listedD {ops : Array Oper} {listed : Array Bool} (hs : listed.size = ops.size) (ht : inOrder ops = true) (hr : Region.ready .any ops listed = []) : ∀ n i, i < n → i < ops.size → listed.getD i false = true := by
  intro n
  induction n with
  | zero => intro i h; omega
  | succ n ih =>
    intro i hi hn
    have h1 := List.all_eq_true.1 ht i (List.mem_range.2 hn)
    have ho : ops[i]? = some ops[i] := Array.getElem?_eq_getElem hn
    rw [ho] at h1
    simp only [Option.map_some, Option.getD_some, Bool.and_eq_true, Array.all_eq_true', decide_eq_true_eq] at h1
    have hnr : ¬ i ∈ Region.ready .any ops listed := by rw [hr]; intro h; cases h
    have hl : i < listed.size := by omega
    by_cases hx : listed.getD i true = false
    · exact absurd (mem_ready.2 ⟨hx, ops[i], ho, fun e he _ => ih e.on (by have := h1.2 e he; omega) (by have := h1.2 e he; omega)⟩) hnr
    · simp [hl] at hx ⊢; exact hx
/-- A REGION THAT DRAWS, BY AN INVARIANT: each operation once, whatever has come up before it. -/
theorem wp_drawnI {P : Program} {ops : Array Oper} {Q : Exit → Act → World → Prop} {id : Nat} {a0 : Act} {w0 : World} (hm : P.follows .mixedOrders = true)
    (N : Nat) (hN : a0.tmps.size = N) (ht : inOrder ops = true) (hd : apartD ops N = true) (c : Nat) (G : World → Prop) (Φ : Nat → Value → Value → World → Prop) (hG : G w0.drew)
    (hstep : StepsD P ops c G Φ a0 0 ops.toList)
    (hend : ∀ a w, a.defers = a0.defers → a.tmps.size = N → (∀ t, offD ops t = true → a.tmps[t]? = a0.tmps[t]?) → G w → (∀ k, k < ops.size → HasD ops c Φ k a w) → Q .normal a w) :
    (Code.region id ops true).wp P Q a0 w0 := by
  refine wp_region_any hm ?_
  refine wpAny_inv (fun listed a w => listed.size = ops.size ∧ a.tmps.size = N ∧ a.defers = a0.defers ∧ (∀ t, offD ops t = true → a.tmps[t]? = a0.tmps[t]?) ∧ G w ∧ (∀ k j, listed.getD k false = true → waits ops k j = true → listed.getD j false = true) ∧ ∀ k, listed.getD k false = true → HasD ops c Φ k a w) ?_ ?_ _ _ _ _ ?_ ?_
  · rintro listed a w i ⟨hs, hn, hf, hoff, hg, hcl, hall⟩ hr
    obtain ⟨h0, o, ho, hpre⟩ := mem_ready.1 hr
    have hi : i < ops.size := by
      rcases Nat.lt_or_ge i ops.size with h' | h'
      · exact h'
      · rw [Array.getElem?_eq_none h'] at ho; cases ho
    have hot : ops.toList[i]? = some o := by rw [Array.getElem?_toList]; exact ho
    have hst := hstep.at hot
    rw [Nat.zero_add] at hst
    have hgd : o.guard = none := by
      have h1 := List.all_eq_true.1 ht i (List.mem_range.2 hi)
      rw [ho] at h1
      simp only [Option.map_some, Option.getD_some, Bool.and_eq_true] at h1
      simpa using h1.1
    have hdst : ∀ d, o.dst = some d → d < N ∧ ∀ j, j < ops.size → j ≠ i → dstOf ops j ≠ some d := by
      intro d hd'
      have h1 := List.all_eq_true.1 hd i (List.mem_range.2 hi)
      have e : dstOf ops i = some d := by unfold dstOf; rw [ho]; exact hd'
      rw [e] at h1
      simp only [Bool.and_eq_true, decide_eq_true_eq] at h1
      refine ⟨h1.1, fun j hj hji => ?_⟩
      have h2 := List.all_eq_true.1 h1.2 j (List.mem_range.2 hj)
      simpa [hji] using h2
    have hlt : ∀ d', o.dst = some d' → d' < a.tmps.size := fun d' h => by rw [hn]; exact (hdst d' h).1
    refine wpOp_step ho (fun K' hK => ?_)
    have hw : Region.wanted o (yielded ops a.tmps) = true := by unfold Region.wanted; rw [hgd]
    rw [if_pos hw]
    have hoffe : ∀ t, offD ops t = true → a.eval (.tmp t) = a0.eval (.tmp t) := fun t h => by
      show a.tmps.getD t undef = a0.tmps.getD t undef
      simp [hoff t h]
    have hwl : ∀ j, waits ops i j = true → listed.getD j false = true := fun j hj => by
      unfold waits at hj
      rw [ho] at hj
      simp only [Option.map_some, Option.getD_some, Array.any_eq_true', Bool.and_eq_true, beq_iff_eq] at hj
      obtain ⟨e, he, hb, rfl⟩ := hj
      exact hpre e he hb
    have hwt : ∀ j, waits ops i j = true → HasD ops c Φ j a w := fun j hj => hall _ (hwl j hj)
    refine (hst a w hg hwt hoffe).wp fun v w' hv => hK _ _ ?_
    obtain ⟨hg', hΦ, hkeep⟩ := hv
    have hc := put_evalD a o.dst v c hlt
    refine ⟨by simp [hs], by rw [put_sizeD]; exact hn, by rw [put_defersD]; exact hf, fun t h => ?_, hg', fun k j hk hj => ?_, fun k hk => ?_⟩
    · rw [put_atD]
      · exact hoff t h
      · intro e
        have h1 := (Array.all_eq_true'.1 h) o (Array.mem_of_getElem? ho)
        simp [e] at h1
    · by_cases hki : i = k
      · subst hki; exact getD_set_true (hwl j hj)
      · rw [getD_set_ne false hki] at hk
        exact getD_set_true (hcl k j hk hj)
    · unfold HasD
      rw [hc]
      by_cases hki : i = k
      · subst hki
        have e : ((dstOf ops i).elim undef (fun d => (a.put o.dst v).eval (.tmp d))) = o.dst.elim undef (fun _ => v) := by
          unfold dstOf
          rw [ho]
          show (o.dst.elim undef _) = _
          cases hdd : o.dst with
          | none => rfl
          | some d => show ((a.put (some d) v).eval (.tmp d)) = v; rw [put_evalD a (some d) v d (by intro d' e; exact hlt d' (hdd.trans e)), if_pos rfl]
        rw [e]
        exact hΦ
      · have hk' : listed.getD k false = true := by rw [getD_set_ne false hki] at hk; exact hk
        have h1 := hall k hk'
        unfold HasD at h1
        have hw2 : waits ops k i = false := by
          cases hw3 : waits ops k i with
          | false => rfl
          | true =>
            have h3 := hcl k i hk' hw3
            rcases Nat.lt_or_ge i listed.size with h' | h'
            · simp [h'] at h0 h3; rw [h0] at h3; cases h3
            · simp [h'] at h0
        have e : ((dstOf ops k).elim undef (fun d => (a.put o.dst v).eval (.tmp d))) = ((dstOf ops k).elim undef (fun d => a.eval (.tmp d))) := by
          cases hdk : dstOf ops k with
          | none => rfl
          | some d =>
            show (a.put o.dst v).eval (.tmp d) = a.eval (.tmp d)
            rw [put_evalD a o.dst v d hlt, if_neg]
            intro e
            have hks : k < ops.size := by
              rcases Nat.lt_or_ge k ops.size with h' | h'
              · exact h'
              · simp [hs, h'] at hk'
            exact (hdst d e).2 k hks (Ne.symm hki) hdk
        rw [e]
        exact hkeep k _ hw2 h1
  · rintro listed a w ⟨hs, hn, hf, hoff, hg, hcl, hall⟩ hr
    exact hend a w hf hn hoff hg (fun k hk => hall k (all_listedD hs ht hr _ k (Nat.lt_succ_self _) hk))
  · unfold leftN
    exact Nat.le_trans List.countP_le_length (by simp)
  · refine ⟨by simp, hN, rfl, fun _ _ => rfl, hG, fun k j hk hj => ?_, fun k hk => ?_⟩
    · rcases Nat.lt_or_ge k ops.size with h' | h' <;> simp [h'] at hk
    · rcases Nat.lt_or_ge k ops.size with h' | h' <;> simp [h'] at hk
/-- The frame as it is behind a region: the slots that it writes, and those of before. -/
def mixL (ts : Array Value) : Nat → List Bool → List Value → List Value
  | k, true :: m, _ :: l => ts.getD k undef :: mixL ts (k + 1) m l
  | k, false :: m, x :: l => x :: mixL ts (k + 1) m l
  | _, _, _ => []
theorem mixL_len (ts : Array Value) : ∀ (l : List Value) (m : List Bool) (k : Nat), m.length = l.length → (mixL ts k m l).length = l.length
  | [], [], _, _ => rfl
  | [], _ :: _, _, h => by simp at h
  | _ :: _, [], _, h => by simp at h
  | _ :: l, true :: m, k, h => by simp only [mixL, List.length_cons]; rw [mixL_len ts l m _ (by simpa using h)]
  | _ :: l, false :: m, k, h => by simp only [mixL, List.length_cons]; rw [mixL_len ts l m _ (by simpa using h)]
theorem mixL_at (ts : Array Value) : ∀ (l : List Value) (m : List Bool) (k : Nat), m.length = l.length → ∀ i, (mixL ts k m l)[i]? = if m[i]? = some true then some (ts.getD (k + i) undef) else l[i]?
  | [], [], _, _, i => by simp [mixL]
  | [], _ :: _, _, h, _ => by simp at h
  | _ :: _, [], _, h, _ => by simp at h
  | x :: l, true :: m, k, h, 0 => by simp [mixL]
  | x :: l, false :: m, k, h, 0 => by simp [mixL]
  | x :: l, true :: m, k, h, i + 1 => by simp only [mixL, List.getElem?_cons_succ]; rw [mixL_at ts l m _ (by simpa using h) i, Nat.add_assoc, Nat.add_comm 1 i]
  | x :: l, false :: m, k, h, i + 1 => by simp only [mixL, List.getElem?_cons_succ]; rw [mixL_at ts l m _ (by simpa using h) i, Nat.add_assoc, Nat.add_comm 1 i]
theorem mix_eq {ops : Array Oper} {a a0 : Act} {l : List Value} (m : List Bool) (h0 : a0.tmps = l.toArray) (hm : m.length = l.length) (hs : a.tmps.size = m.length) (hd : a.defers = a0.defers)
    (hk : (List.range m.length).all (fun t => m.getD t true || offD ops t) = true) (hoff : ∀ t, offD ops t = true → a.tmps[t]? = a0.tmps[t]?) : a = ⟨(mixL a.tmps 0 m l).toArray, a0.defers⟩ := by
  obtain ⟨ts, df⟩ := a
  have hd' : df = a0.defers := hd
  subst hd'
  congr 1
  show ts = (mixL ts 0 m l).toArray
  have hs' : ts.size = m.length := hs
  apply Array.ext_getElem?
  intro i
  have e9 : (mixL ts 0 m l).toArray[i]? = (mixL ts 0 m l)[i]? := by simp
  rw [e9, mixL_at ts l m 0 hm i, Nat.zero_add]
  rcases Nat.lt_or_ge i m.length with hi | hi
  · have hk' := List.all_eq_true.1 hk i (List.mem_range.2 hi)
    split
    · have hi2 : i < ts.size := by omega
      simp [hi2]
    · rename_i hne
      have hf : m.getD i true = false := by
        cases hb : m[i]? with
        | none => rw [List.getElem?_eq_none_iff] at hb; omega
        | some b => cases b with
          | true => exact absurd hb hne
          | false => simp [hb]
      rw [hf, Bool.false_or] at hk'
      have := hoff i hk'
      rw [h0] at this
      simpa using this
  · have h1 : ts[i]? = none := Array.getElem?_eq_none (by omega)
    have h2 : m[i]? = none := List.getElem?_eq_none (by omega)
    rw [h1, h2, List.getElem?_eq_none (by omega)]
    simp
theorem keepN {Φ : Nat → Value → Value → World → Prop} {p : Prop} [Decidable p] {k : Nat} {y v u : Value} {w : World} (hn : ¬ p) (h : Φ k y u w) : Φ k y (if p then v else u) w := by rw [if_neg hn]; exact h
theorem evT {a : Act} {t : Nat} {v : Value} (h : a.eval (.tmp t) = v) : a.tmps[t]?.getD undef = v := by
  rw [← h]
  show _ = a.tmps.getD t undef
  simp
theorem does_call1 {P : Program} {o : Oper} {a : Act} {w : World} {R : Value → World → Prop} (f : FuncId) (x : Operand) (ts : Array TypeId)
    (ho : o.op = .call { callee := .value (.func f), args := #[x], argTypes := ts }) (v : Value) (hx : a.eval x = v) (hf : ∀ args w, (callFunc f args).run P w = .ok (.enter f args) w)
    {S : Ending → World → Prop} (hc : Calls P f #[v] w S) (hv : ∀ e w', S e w' → ∃ v, e = .returned v ∧ R v w') : Does P o a w R := by
  refine Does.call f #[v] ?_ (hc.mono hv)
  obtain ⟨dst, op, ty, pos, after, guard⟩ := o
  cases ho
  show (callFunc f (#[] ++ #[x].map a.eval ++ #[])).run P w = _
  have e : (#[] ++ #[x].map a.eval ++ #[]) = #[v] := by simp [hx]
  rw [e]; exact hf _ _
theorem does_call2 {P : Program} {o : Oper} {a : Act} {w : World} {R : Value → World → Prop} (f : FuncId) (x y : Operand) (ts : Array TypeId)
    (ho : o.op = .call { callee := .value (.func f), args := #[x, y], argTypes := ts }) (v u : Value) (hx : a.eval x = v) (hy : a.eval y = u) (hf : ∀ args w, (callFunc f args).run P w = .ok (.enter f args) w)
    {S : Ending → World → Prop} (hc : Calls P f #[v, u] w S) (hv : ∀ e w', S e w' → ∃ v, e = .returned v ∧ R v w') : Does P o a w R := by
  refine Does.call f #[v, u] ?_ (hc.mono hv)
  obtain ⟨dst, op, ty, pos, after, guard⟩ := o
  cases ho
  show (callFunc f (#[] ++ #[x, y].map a.eval ++ #[])).run P w = _
  have e : (#[] ++ #[x, y].map a.eval ++ #[]) = #[v, u] := by simp [hx, hy]
  rw [e]; exact hf _ _
end Go.Proofs.YtfpglpefofcdeaaGreatDoor
namespace Go.Proofs.YtfpglpefofcdeaaGreatDoor
open Go.RowKit
set_option linter.unusedVariables false
set_option linter.unusedSimpArgs false
set_option maxRecDepth 100000

theorem fcaseT {f : Bool} {n : Int} (h : f = farN n 1) : (n < 0 ∧ f = true) ∨ (¬ n < 0 ∧ 255 < n ∧ f = true) ∨ (¬ n < 0 ∧ ¬ 255 < n ∧ f = false) := by
  rw [far1] at h
  by_cases h0 : n < 0
  · exact .inl ⟨h0, by rw [h, decide_eq_true h0]; rfl⟩
  · by_cases h1 : 255 < n
    · exact .inr (.inl ⟨h0, h1, by rw [h, decide_eq_false h0, decide_eq_true h1]; rfl⟩)
    · exact .inr (.inr ⟨h0, h1, by rw [h, decide_eq_false h0, decide_eq_false h1]; rfl⟩)
theorem rowK {W W' : World} {g : Nat} {o : Obj} (h : W.heap[g]? = some o) (hb : Below W.heap.size W W') : W'.heap[g]? = some o := (hb.block _ (block_ltQ h)).trans h
theorem bytes_oneH (x : Int) (g cap : Nat) (w : World) (t : TypeId) (h : w.heap[g]? = some (.cells #[.int .i64 x] t (0, 0))) :
    Calls Tryz.prog 19 #[.slice (some ⟨g, 0, none⟩) 1 cap] w fun e w' => e = .returned (.string (strOfNums [lowByte x])) ∧ Below w.heap.size w w' := bytes_one x g 0 cap w (block_ltQ h) (cell_of_row _ _ 0 _ _ _ h)
theorem ent_rbytes (args : Array Value) (w : World) : (callFunc 19 args).run Tryz.prog w = .ok (.enter 19 args) w := by kernel_rfl
theorem ent_ritem (args : Array Value) (w : World) : (callFunc 18 args).run Tryz.prog w = .ok (.enter 18 args) w := by kernel_rfl
/-- what is known behind each operation of 'in := item(128, ..) + item(129, ..)' -/
def phi4 (n A : Nat) (er dO : Int) (I1 I2 : ByteArray) : Nat → Value → Value → World → Prop
  | 0, v, _, _ => v = .pointer (some ⟨A, 0, none⟩)
  | 1, v, _, _ => v = .int .i64 er
  | 2, v, _, w => ∃ g cap, v = .slice (some ⟨g, 0, none⟩) 1 cap ∧ w.heap[g]? = some (.cells #[.int .i64 er] 3 (0, 0))
  | 3, v, _, _ => v = .string (strOfNums [lowByte er])
  | 4, v, _, _ => v = .string I1
  | 5, v, _, _ => v = .pointer (some ⟨A, 1, none⟩)
  | 6, v, _, _ => v = .int .i64 dO
  | 7, v, _, w => ∃ g cap, v = .slice (some ⟨g, 0, none⟩) 1 cap ∧ w.heap[g]? = some (.cells #[.int .i64 dO] 3 (0, 0))
  | 8, v, _, _ => v = .string (strOfNums [lowByte dO])
  | 9, v, _, _ => v = .string I2
  | 10, v, _, _ => v = .string (I1 ++ I2)
  | 11, v, _, w => ∃ I s, v = .pointer (some ⟨I, 0, none⟩) ∧ w.heap[I]? = some (.cells #[.string s] 9 (0, 0)) ∧ n ≤ I
  | 12, _, u, w => ∃ I, u = .pointer (some ⟨I, 0, none⟩) ∧ w.heap[I]? = some (.cells #[.string (I1 ++ I2)] 9 (0, 0)) ∧ n ≤ I
  | _, _, _, _ => True
theorem phi4_keep {n A : Nat} {er dO : Int} {I1 I2 : ByteArray} {w w' : World} (h : ∀ (g : Nat) o, w.heap[g]? = some o → w'.heap[g]? = some o) : ∀ k y u, phi4 n A er dO I1 I2 k y u w → phi4 n A er dO I1 I2 k y u w'
  | 0, _, _, q => q | 1, _, _, q => q | 3, _, _, q => q | 4, _, _, q => q | 5, _, _, q => q | 6, _, _, q => q | 8, _, _, q => q | 9, _, _, q => q | 10, _, _, q => q
  | 2, _, _, q => by obtain ⟨g, cap, e, hg⟩ := q; exact ⟨g, cap, e, h _ _ hg⟩
  | 7, _, _, q => by obtain ⟨g, cap, e, hg⟩ := q; exact ⟨g, cap, e, h _ _ hg⟩
  | 11, _, _, q => by obtain ⟨I, s, e, hg, hn⟩ := q; exact ⟨I, s, e, h _ _ hg, hn⟩
  | 12, _, _, q => by obtain ⟨I, e, hg, hn⟩ := q; exact ⟨I, e, h _ _ hg, hn⟩
  | k + 13, _, _, _ => trivial
theorem phi4_u {n A : Nat} {er dO : Int} {I1 I2 : ByteArray} {w : World} (v : Value) : ∀ k y u, k ≠ 12 → phi4 n A er dO I1 I2 k y u w → phi4 n A er dO I1 I2 k y v w
  | 0, _, _, _, q => q | 1, _, _, _, q => q | 2, _, _, _, q => q | 3, _, _, _, q => q | 4, _, _, _, q => q | 5, _, _, _, q => q | 6, _, _, _, q => q | 7, _, _, _, q => q | 8, _, _, _, q => q | 9, _, _, _, q => q | 10, _, _, _, q => q | 11, _, _, _, q => q
  | 12, _, _, h, _ => absurd rfl h
  | k + 13, _, _, _, _ => trivial
/-- the text is laid into its cell -/
theorem phi4_store {n A : Nat} {er dO : Int} {I1 I2 : ByteArray} {w : World} {I : Nat} {s t : ByteArray} (hI : w.heap[I]? = some (.cells #[.string s] 9 (0, 0))) : ∀ k y u, k ≠ 12 → phi4 n A er dO I1 I2 k y u w → phi4 n A er dO I1 I2 k y u (w.setCell ⟨I, 0, none⟩ (.string t)) := by
  have hx : ∀ (g : Nat) o, w.heap[g]? = some o → g ≠ I → (w.setCell ⟨I, 0, none⟩ (.string t)).heap[g]? = some o := fun g o ho hne => by
    simp [World.setCell, Array.getElem?_modify, ho, Ne.symm hne]
  have hy : (w.setCell ⟨I, 0, none⟩ (.string t)).heap[I]? = some (.cells #[.string t] 9 (0, 0)) := set_oneT hI
  intro k y u hk q
  match k, hk, q with
  | 0, _, q => exact q
  | 1, _, q => exact q
  | 3, _, q => exact q
  | 4, _, q => exact q
  | 5, _, q => exact q
  | 6, _, q => exact q
  | 8, _, q => exact q
  | 9, _, q => exact q
  | 10, _, q => exact q
  | 2, _, q =>
    obtain ⟨g, cap, e, hg⟩ := q
    exact ⟨g, cap, e, hx _ _ hg (fun e => by rw [e, hI] at hg; cases hg)⟩
  | 7, _, q =>
    obtain ⟨g, cap, e, hg⟩ := q
    exact ⟨g, cap, e, hx _ _ hg (fun e => by rw [e, hI] at hg; cases hg)⟩
  | 11, _, q =>
    obtain ⟨J, s', e, hg, hn⟩ := q
    by_cases hj : J = I
    · subst hj; exact ⟨J, t, e, hy, hn⟩
    · exact ⟨J, s', e, hx _ _ hg hj, hn⟩
  | 12, h, _ => exact absurd rfl h
  | k + 13, _, _ => trivial
theorem keepB {w w' : World} (h : Below w.heap.size w w') : ∀ (g : Nat) o, w.heap[g]? = some o → w'.heap[g]? = some o := fun g o ho => (h.block _ (block_ltQ ho)).trans ho
theorem keepA {w : World} (o' : Obj) : ∀ (g : Nat) o, w.heap[g]? = some o → (w.alloc o').heap[g]? = some o := fun g o ho => alloc_keepQT ho
set_option maxHeartbeats 4000000 in
theorem ranswer_no (a : An) (w : World) (hd : inT a.dO 1 7 = false) :
    Calls Tryz.prog 6 #[.agg (anC a)] w fun e w' => e = .returned (.tuple #[.string (answerS a), .int .i64 (answerE a)]) ∧ Below w.heap.size w w' := by
  have e1 : answerE a = 4 := by unfold answerE; rw [hd]; rfl
  have e2 : answerS a = ⟨#[]⟩ := by unfold answerS; rw [hd]; rfl
  rw [e1, e2]
  obtain ⟨W1, hW1⟩ : ∃ W1, W1 = w.alloc (.cells (anC a) 37) := ⟨_, rfl⟩
  have hX1 : W1.heap[w.heap.size]? = some (.cells (anC a) 37 (0, 0)) := by rw [hW1]; exact heap_alloc_new _ _
  have hB1 : Below w.heap.size w W1 := by rw [hW1]; exact (Below.refl _ _).alloc (Nat.le_refl _) _
  have c1 : W1.cell? ⟨w.heap.size, 1, none⟩ = some (.int .i64 a.dO) := cell_of_row _ _ 1 _ _ _ hX1
  have hn : ¬ (1 ≤ a.dO ∧ a.dO ≤ 7) := of_decide_eq_false hd
  have HW1 := hide hW1; have HB1 := hide hB1
  generalize anC a = L at *
  generalize a.dO = d at *
  clear hW1 hB1 hX1 hd e1 e2
  by_cases h1 : d < 1
  · clear hn
    go_enter Tryz.func6, Tryz.ntmps6
    go_upto_region 1 with fail
    rw [← unhide HW1]
    go_wp2
    go_ret2
    exact ⟨rfl, unhide HB1⟩
  · have h7 : 7 < d := by omega
    clear hn
    go_enter Tryz.func6, Tryz.ntmps6
    go_upto_region 1 with fail
    rw [← unhide HW1]
    go_wp2
    go_ret2
    exact ⟨rfl, unhide HB1⟩
theorem inL_step {L : List (Int × ByteArray)} {N M : Nat} (h : (inL L).size ≤ N) {t : Int} {s : ByteArray} (hs : s.size ≤ M) : (inL (L ++ [(t, s)])).size ≤ N + M + 11 := by
  rw [inL_snoc, ByteArray.size_append, itS_size]
  have hlz : lenLen s.size ≤ 10 := by unfold lenLen; split <;> (try split) <;> omega
  omega
end Go.Proofs.YtfpglpefofcdeaaGreatDoor
