/- The law's walk: CertRoots. -/
import Derived.Test.YtckkhpegimkefaaGreatDoorM44
import Derived.Test.YtckkhpegimkefaaGreatDoorM35
import Derived.Test.YtckkhpegimkefaaGreatDoorM14
import Derived.Test.YtckkhpegimkefaaGreatDoorRows
import Derived.Test.YtckkhpegimkefaaGreatDoorM42
import Derived.Test.YtckkhpegimkefaaGreatDoorM21
namespace Go.Proofs.YtckkhpegimkefaaGreatDoor
open Go.RowKit
set_option linter.unusedVariables false
set_option linter.unusedSimpArgs false
set_option maxRecDepth 100000

/-- what is wrong with a text, by its length and by how it stands to the modulus -/
theorem powE_parts {m x : ByteArray} (hm : isModB m = true) :
    (powE m x = 1 ∧ ¬ x.size = m.size) ∨ (powE m x = 3 ∧ x.size = m.size ∧ Op.bytesLess x.toList m.toList = false) ∨ (powE m x = 0) := by
  unfold powE
  rw [hm]
  by_cases hs : x.size = m.size
  · rw [decide_eq_false (by simpa using hs)]
    simp only [Bool.not_true, Bool.or_self, Bool.false_eq_true, if_false]
    by_cases hv : valN m.data.toList ≤ valN x.data.toList
    · rw [if_pos hv]
      exact .inr (.inl ⟨rfl, hs, by rw [less_text x m hs]; exact decide_eq_false (by omega)⟩)
    · rw [if_neg hv]; exact .inr (.inr rfl)
  · rw [decide_eq_true (by simpa using hs)]
    exact .inl ⟨by simp, hs⟩
theorem isMod_of_sec {p q : ByteArray} (h : secE p q = 0) : isModB (secM p q) = true := by
  unfold secM
  rw [if_pos h]
  unfold secE at h
  cases hf : (isFacB p && isFacB q) with
  | false => rw [hf] at h; simp at h
  | true =>
    cases hm : isModB (secT (valN p.data.toList) (valN q.data.toList)) with
    | false => rw [hf, hm] at h; simp at h
    | true => rfl
end Go.Proofs.YtckkhpegimkefaaGreatDoor
namespace Go.Proofs.YtckkhpegimkefaaGreatDoor
open Go.RowKit
set_option linter.unusedVariables false
set_option linter.unusedSimpArgs false

/-- what holds while the region runs: N is how many blocks there were; kn: the known values of the operations below 9; operations 9, 10, 11 make blocks, 12, 13, 14 fill them -/
structure JX (N : Nat) (W1 : World) (T : TypeId) (kn : Nat → Option Value) (X Y : Nat → Value) (S : Nat → Bool) (f : Nat → Value) (w : World) : Prop where
  g : Below N W1 w
  n : N ≤ w.heap.size
  v : ∀ k x, kn k = some x → S k = true → f k = x
  a : ∀ m, m < 3 → S (9 + m) = true → ∃ q x y, f (9 + m) = .pointer (some ⟨q, 0, none⟩) ∧ N ≤ q ∧ At w q #[x, y] T ∧ (S (12 + m) = true → x = X m ∧ y = Y m)
  c : ∀ m, m < 3 → S (12 + m) = true → S (9 + m) = true
  d : ∀ m n, m < 3 → n < 3 → m ≠ n → S (9 + m) = true → S (9 + n) = true → f (9 + m) ≠ f (9 + n)
variable {N : Nat} {W1 : World} {T : TypeId} {kn : Nat → Option Value} {X Y : Nat → Value} {S : Nat → Bool} {f : Nat → Value} {w w' : World}
theorem add_ne {i k : Nat} (h : k ≠ i) : addD S i k = S k := by unfold addD; rw [if_neg h]
theorem upd_ne {i k : Nat} {v : Value} (h : k ≠ i) : updD f i v k = f k := by unfold updD; rw [if_neg h]
theorem upd_at {i : Nat} {v : Value} : updD f i v i = v := by unfold updD; rw [if_pos rfl]
theorem JX.val (h : JX N W1 T kn X Y S f w) {i : Nat} (hi : i < 9) {v : Value} (hv : kn i = some v) (hw : Below w.heap.size w w') : JX N W1 T kn X Y (addD S i) (updD f i v) w' where
  g := h.g.trans (hw.mono h.n)
  n := Nat.le_trans h.n hw.size
  v k x hk hs := by
    by_cases e : k = i
    · subst e; rw [upd_at]; rw [hv] at hk; exact Option.some.inj hk
    · rw [upd_ne e]; rw [add_ne e] at hs; exact h.v k x hk hs
  a m hm hs := by
    rw [add_ne (by omega)] at hs
    obtain ⟨q, x, y, h1, h2, h3, h4⟩ := h.a m hm hs
    exact ⟨q, x, y, by rw [upd_ne (by omega)]; exact h1, h2, h3.below hw, fun hz => h4 (by rwa [add_ne (by omega)] at hz)⟩
  c m hm hs := by
    rw [add_ne (by omega)] at hs ⊢
    exact h.c m hm hs
  d m n hm hn hne h1 h2 := by
    rw [add_ne (by omega)] at h1 h2
    rw [upd_ne (by omega), upd_ne (by omega)]
    exact h.d m n hm hn hne h1 h2
theorem JX.make (h : JX N W1 T kn X Y S f w) {m : Nat} (hm : m < 3) (hk : ∀ k x, kn k = some x → k < 9) (hs : S (9 + m) = false) (x y : Value) :
    JX N W1 T kn X Y (addD S (9 + m)) (updD f (9 + m) (.pointer (some ⟨w.heap.size, 0, none⟩))) (w.alloc (.cells #[x, y] T)) where
  g := h.g.alloc h.n _
  n := by simp; exact Nat.le_succ_of_le h.n
  v k x hkk hs := by
    have := hk k x hkk
    rw [upd_ne (by omega)]; rw [add_ne (by omega)] at hs; exact h.v k x hkk hs
  a j hj hsj := by
    by_cases e : j = m
    · subst e
      refine ⟨w.heap.size, x, y, upd_at, h.n, At.new _ _ _, fun hz => ?_⟩
      rw [add_ne (by omega)] at hz
      rw [h.c j hj hz] at hs; cases hs
    · rw [add_ne (by omega)] at hsj
      obtain ⟨q, x', y', h1, h2, h3, h4⟩ := h.a j hj hsj
      exact ⟨q, x', y', by rw [upd_ne (by omega)]; exact h1, h2, h3.below ((Below.refl _ _).alloc (Nat.le_refl _) _), fun hz => h4 (by rwa [add_ne (by omega)] at hz)⟩
  c j hj hz := by
    rw [add_ne (by omega)] at hz
    by_cases e : 9 + j = 9 + m
    · rw [e]; unfold addD; rw [if_pos rfl]
    · rw [add_ne e]; exact h.c j hj hz
  d j n hj hn hne h1 h2 := by
    by_cases e1 : j = m
    · subst e1
      rw [add_ne (by omega)] at h2
      rw [upd_at, upd_ne (by omega)]
      obtain ⟨q, x', y', hq, _, hA, _⟩ := h.a n hn h2
      rw [hq]
      intro he
      have := hA.lt
      simp at he
      all_goals omega
    · by_cases e2 : n = m
      · subst e2
        rw [add_ne (by omega)] at h1
        rw [upd_at, upd_ne (by omega)]
        obtain ⟨q, x', y', hq, _, hA, _⟩ := h.a j hj h1
        rw [hq]
        intro he
        have := hA.lt
        simp at he
        all_goals omega
      · rw [add_ne (by omega)] at h1 h2
        rw [upd_ne (by omega), upd_ne (by omega)]
        exact h.d j n hj hn hne h1 h2
theorem JX.fill (h : JX N W1 T kn X Y S f w) {m : Nat} (hm : m < 3) (hk : ∀ k x, kn k = some x → k < 9) {q : Nat} (hs : S (9 + m) = true) (hq : f (9 + m) = .pointer (some ⟨q, 0, none⟩)) (v : Value) :
    JX N W1 T kn X Y (addD S (12 + m)) (updD f (12 + m) v) ((w.setCell ⟨q, 0, none⟩ (X m)).setCell ⟨q, 1, none⟩ (Y m)) where
  g := by
    obtain ⟨q', x, y, h1, h2, h3, h4⟩ := h.a m hm hs
    rw [hq] at h1
    obtain rfl : q = q' := by simpa using h1
    exact (h.g.setCell (p := ⟨q, 0, none⟩) h2 _).setCell (p := ⟨q, 1, none⟩) h2 _
  n := by simp; exact h.n
  v k x hkk hs := by
    have := hk k x hkk
    rw [upd_ne (by omega)]; rw [add_ne (by omega)] at hs; exact h.v k x hkk hs
  a j hj hsj := by
    rw [add_ne (by omega)] at hsj
    obtain ⟨q', x, y, h1, h2, h3, h4⟩ := h.a j hj hsj
    by_cases e : j = m
    · subst e
      rw [hq] at h1
      obtain rfl : q = q' := by simpa using h1
      refine ⟨q, X j, Y j, by rw [upd_ne (by omega)]; exact hq, h2, ?_, fun _ => ⟨rfl, rfl⟩⟩
      have := (h3.set (j := 0) (v := X j)).set (j := 1) (v := Y j)
      simpa using this
    · have hne : q' ≠ q := by
        intro he
        subst he
        exact h.d j m hj hm e hsj hs (by rw [h1, hq])
      exact ⟨q', x, y, by rw [upd_ne (by omega)]; exact h1, h2, (h3.other (j := 0) (v := X m) hne).other (j := 1) (v := Y m) hne, fun hz => h4 (by rwa [add_ne (by omega)] at hz)⟩
  c j hj hz := by
    rw [add_ne (by omega)]
    by_cases e : j = m
    · subst e; exact hs
    · rw [add_ne (by omega)] at hz; exact h.c j hj hz
  d j n hj hn hne h1 h2 := by
    rw [add_ne (by omega)] at h1 h2
    rw [upd_ne (by omega), upd_ne (by omega)]
    exact h.d j n hj hn hne h1 h2
end Go.Proofs.YtckkhpegimkefaaGreatDoor
namespace Go.Proofs.YtckkhpegimkefaaGreatDoor
set_option linter.unusedVariables false
/-- the values of what has come up are said; the world is as it was until the last one comes -/
structure SInv (L : Nat) (V : Nat → Value) (w0 w1 : World) (S : Nat → Bool) (f : Nat → Value) (w : World) : Prop where
  v : ∀ k, k < L → S k = true → f k = V k
  o : S L = false → w = w0
  t : S L = true → w = w1 ∧ ∀ k, k < L → S k = true
theorem SInv.same {L : Nat} {V : Nat → Value} {w0 w1 w : World} {S : Nat → Bool} {f : Nat → Value} (h : SInv L V w0 w1 S f w) {i : Nat} (hi : i < L) (hs : S i = false) : S L = false ∧ w = w0 := by
  cases hl : S L with
  | false => exact ⟨rfl, h.o hl⟩
  | true => have := (h.t hl).2 i hi; rw [hs] at this; cases this
theorem SInv.val {L : Nat} {V : Nat → Value} {w0 w1 w : World} {S : Nat → Bool} {f : Nat → Value} (h : SInv L V w0 w1 S f w) {i : Nat} (hi : i < L) (hs : S i = false) (v : Value) (hv : v = V i) : SInv L V w0 w1 (addD S i) (updD f i v) w := by
  obtain ⟨hl, hw⟩ := h.same hi hs
  refine ⟨fun k hk hx => ?_, fun _ => hw, fun hx => ?_⟩
  · unfold addD at hx
    unfold updD
    by_cases e : k = i
    · subst e; rw [if_pos rfl]; exact hv
    · rw [if_neg e] at hx ⊢; exact h.v k hk hx
  · unfold addD at hx
    rw [if_neg (by omega), hl] at hx
    cases hx
theorem SInv.last {L : Nat} {V : Nat → Value} {w0 w1 w : World} {S : Nat → Bool} {f : Nat → Value} (h : SInv L V w0 w1 S f w) (hall : ∀ k, k < L → S k = true) (v : Value) : SInv L V w0 w1 (addD S L) (updD f L v) w1 := by
  refine ⟨fun k hk hx => ?_, fun hx => ?_, fun _ => ⟨rfl, fun k hk => ?_⟩⟩
  · unfold updD; rw [if_neg (by omega)]; exact h.v k hk (hall k hk)
  · unfold addD at hx; rw [if_pos rfl] at hx; cases hx
  · unfold addD; rw [if_neg (by omega)]; exact hall k hk
end Go.Proofs.YtckkhpegimkefaaGreatDoor
namespace Go.Proofs.YtckkhpegimkefaaGreatDoor
open Go.RowKit
set_option linter.unusedVariables false
set_option linter.unusedSimpArgs false
set_option maxRecDepth 100000

def prP (n : Int) : ByteArray := prB (2 * chN n 6)
def prQ (n : Int) : ByteArray := prB (2 * chN n 6 + 1)
def prM (n : Int) : ByteArray := secM (prP n) (prQ n)
theorem chN6 (n : Int) : chN n 6 < 6 := by have := chN_lt n 6 (by decide); omega
theorem pr_secret (n : Int) : secE (prP n) (prQ n) = 0 := pair_secret _ (chN6 n)
theorem pair_fun (n : Int) (w : World) (hn : -9223372036854775808 ≤ n ∧ n ≤ 9223372036854775807) (ht : PairTab w) :
    Calls Tryz.prog 8 #[.int .i64 n] w fun e w' => e = .returned (.agg #[.string (prP n), .string (prQ n)]) ∧ Below w.heap.size w w' :=
  (pairF_any n w hn ht).mono fun e w' ⟨⟨i, h1, h2, h3⟩, hb⟩ => ⟨by rw [h2, h3]; rfl, hb⟩
theorem entChoose (args : Array Value) (w : World) : (callFunc 10 args).run Tryz.prog w = .ok (.enter 10 args) w := by kernel_rfl
theorem entPair (args : Array Value) (w : World) : (callFunc 8 args).run Tryz.prog w = .ok (.enter 8 args) w := by kernel_rfl
theorem certR_size (p q : ByteArray) (k : Int) (body beside : ByteArray) : (certR p q k body beside).size ≤ 1048576 := by
  by_cases h : certE p q k body beside = 0
  · have h2 := (cert_yes h).2
    rw [h2]
    have hs : secE p q = 0 := by
      by_cases hs : secE p q = 0
      · exact hs
      · have := (cert_secE (k := k) (body := body) (beside := beside) hs).1
        exact absurd (this.symm.trans h) hs
    by_cases hk : 1 ≤ k ∧ k ≤ 4
    · by_cases hl : 1000 < body.size ∨ 65535 < beside.size
      · have := (cert_long hs hk hl).1
        rw [h] at this; cases this
      · unfold laidR
        rw [ByteArray.size_extract, bodyT_size]
        omega
    · have := (cert_kind (body := body) (beside := beside) hs hk).1
      rw [h] at this; cases this
  · rw [(cert_no rfl h).2]; decide
theorem certS_size {p q : ByteArray} {k : Int} {body beside : ByteArray} (h : certE p q k body beside = 0) : 40 ≤ (certS p q k body beside).size ∧ (certS p q k body beside).size ≤ 96 := by
  have hs : secE p q = 0 := by
    by_cases hs : secE p q = 0
    · exact hs
    · have := (cert_secE (k := k) (body := body) (beside := beside) hs).1
      exact absurd (this.symm.trans h) hs
  rw [(cert_yes h).1]
  have := powT_len (d := secD p q) (powE_laid (secE_isMod hs) k (bodyT body) beside)
  omega
theorem ckR_size (p q : ByteArray) (k : Int) (o : ByteArray) (t : Int) (m beside : ByteArray) : (ckR p q k o t m beside).size ≤ 1048576 := by
  unfold ckR
  split
  · exact certR_size _ _ _ _ _
  · decide
theorem ckS_size {p q : ByteArray} {k : Int} {o : ByteArray} {t : Int} {m beside : ByteArray} (h : ckE p q k o t m beside = 0) : 40 ≤ (ckS p q k o t m beside).size ∧ (ckS p q k o t m beside).size ≤ 96 := by
  unfold ckE at h
  unfold ckS
  by_cases hk : keyE o t m = 0
  · rw [if_pos hk] at h
    rw [if_pos hk]
    exact certS_size h
  · rw [if_neg hk] at h
    exact absurd h hk
theorem wrap_same (a : Int) (h : -9223372036854775808 ≤ a ∧ a ≤ 9223372036854775807) : IntKind.i64.wrap a = a := by rw [IntKind.wrap_i64]; omega
theorem tmod2 (a : Int) : -2 < Int.tmod a 2 ∧ Int.tmod a 2 < 2 := by
  rw [Int.tmod_eq_emod]
  have h1 := Int.emod_nonneg a (show (2:Int) ≠ 0 by decide)
  have h2 := Int.emod_lt_of_pos a (show (0:Int) < 2 by decide)
  split
  · omega
  · rw [show ((2:Int).natAbs : Int) = 2 from rfl]; omega
theorem tdiv7 (a : Int) (h : -9223372036854775808 ≤ a ∧ a ≤ 9223372036854775807) : -9223372036854775808 ≤ Int.tdiv a 7 ∧ Int.tdiv a 7 ≤ 9223372036854775807 := by
  rw [Int.tdiv_eq_ediv]
  split
  · omega
  · rw [show Int.sign 7 = 1 from rfl]; omega
/-- what the certificates come to: the texts of the two may be spoilt -/
def lkQ (mr ra rb sa0 sb0 : ByteArray) (er sp : Int) (e : Ending) : Prop := ∃ sa sb, e = .returned (.tuple #[.string mr, .agg #[.string sa, .string ra], .agg #[.string sb, .string rb], .int .i64 er]) ∧ (sp = 0 → sa = sa0 ∧ sb = sb0)
/-- a block of the law's links -/
def lkCells (r i c : Int) (pre id : ByteArray) (t0 t1 : Int) (data : ByteArray) (sp : Int) : Array Value := #[.int .i64 r, .int .i64 i, .int .i64 c, .string pre, .string id, .int .i64 t0, .int .i64 t1, .string data, .int .i64 sp]
/-- what the first nine operations come to -/
def knX (b : Nat) (r i c : Int) (pr qr pi qi pc qc : ByteArray) (k : Nat) : Option Value :=
  if k = 0 then some (.pointer (some ⟨b, 0, none⟩)) else if k = 1 then some (.int .i64 r) else if k = 2 then some (.agg #[.string pr, .string qr])
  else if k = 3 then some (.pointer (some ⟨b, 1, none⟩)) else if k = 4 then some (.int .i64 i) else if k = 5 then some (.agg #[.string pi, .string qi])
  else if k = 6 then some (.pointer (some ⟨b, 2, none⟩)) else if k = 7 then some (.int .i64 c) else if k = 8 then some (.agg #[.string pc, .string qc]) else none
theorem knX_lt {b : Nat} {r i c : Int} {pr qr pi qi pc qc : ByteArray} (k : Nat) (x : Value) (h : knX b r i c pr qr pi qi pc qc k = some x) : k < 9 := by
  unfold knX at h
  rcases Nat.lt_or_ge k 9 with hk | hk
  · exact hk
  · rw [if_neg (by omega), if_neg (by omega), if_neg (by omega), if_neg (by omega), if_neg (by omega), if_neg (by omega), if_neg (by omega), if_neg (by omega), if_neg (by omega)] at h; cases h
set_option maxHeartbeats 8000000 in
theorem certs_any (r i c : Int) (pre id : ByteArray) (t0 t1 : Int) (data : ByteArray) (sp : Int) (w : World) (ht : PairTab w)
    (hr : -9223372036854775808 ≤ r ∧ r ≤ 9223372036854775807) (hi : -9223372036854775808 ≤ i ∧ i ≤ 9223372036854775807) (hc : -9223372036854775808 ≤ c ∧ c ≤ 9223372036854775807) (hp : pre.size ≤ maxLen) (hd : id.size ≤ maxLen) (h0 : t0 ≤ 9223372036854775807) (h1 : t1 ≤ 9223372036854775807) (hs : -9223372036854775808 ≤ sp ∧ sp ≤ 9223372036854775807) :
    Calls Tryz.prog 5 #[.agg (lkCells r i c pre id t0 t1 data sp)] w fun e w' => lkQ (prM r) (ckR (prP r) (prQ r) 1 pre t0 (prM i) ⟨#[]⟩) (ckR (prP i) (prQ i) 2 id t1 (prM c) data) (ckS (prP r) (prQ r) 1 pre t0 (prM i) ⟨#[]⟩) (ckS (prP i) (prQ i) 2 id t1 (prM c) data) (if ckE (prP r) (prQ r) 1 pre t0 (prM i) ⟨#[]⟩ = 0 then ckE (prP i) (prQ i) 2 id t1 (prM c) data else ckE (prP r) (prQ r) 1 pre t0 (prM i) ⟨#[]⟩) sp e ∧ Below w.heap.size w w' := by
  obtain ⟨Wa, hWa⟩ : ∃ W1, W1 = w.alloc (.cells (lkCells r i c pre id t0 t1 data sp) 24) := ⟨_, rfl⟩
  obtain ⟨Wb, hWb⟩ : ∃ W1, W1 = Wa.alloc (.cells #[.string ⟨#[]⟩, .string ⟨#[]⟩] 26) := ⟨_, rfl⟩
  obtain ⟨W1, hW1⟩ : ∃ W1, W1 = Wb.alloc (.cells #[.string ⟨#[]⟩, .string ⟨#[]⟩] 26) := ⟨_, rfl⟩
  have ba : Below w.heap.size w Wa := by rw [hWa]; exact (Below.refl _ _).alloc (Nat.le_refl _) _
  have bb : Below Wa.heap.size Wa Wb := by rw [hWb]; exact (Below.refl _ _).alloc (Nat.le_refl _) _
  have bc : Below Wb.heap.size Wb W1 := by rw [hW1]; exact (Below.refl _ _).alloc (Nat.le_refl _) _
  have la : Wa.heap.size = w.heap.size + 1 := by rw [hWa]; simp
  have lb : Wb.heap.size = w.heap.size + 2 := by rw [hWb]; simp [la]
  have xa : At Wa w.heap.size (lkCells r i c pre id t0 t1 data sp) 24 := by rw [hWa]; exact At.new _ _ _
  have xb : At Wb (w.heap.size + 1) #[.string ⟨#[]⟩, .string ⟨#[]⟩] 26 := by have h := At.new Wa #[.string ⟨#[]⟩, .string ⟨#[]⟩] 26; rw [← hWb, la] at h; exact h
  have xc : At W1 (w.heap.size + 2) #[.string ⟨#[]⟩, .string ⟨#[]⟩] 26 := by have h := At.new Wb #[.string ⟨#[]⟩, .string ⟨#[]⟩] 26; rw [← hW1, lb] at h; exact h
  rw [hWb, hWa] at hW1
  have xa' := (xa.below bb).below bc
  have xb' := xb.below bc
  have hB : Below w.heap.size w W1 := (ba.trans (bb.mono ba.size)).trans (bc.mono (by omega))
  have ht1 : PairTab W1 := ht.below hB ht.lt
  have hlz : 0 < W1.heap.size := Nat.lt_of_lt_of_le ht.lt hB.size
  have HC : Hid (∀ W, Below W1.heap.size W1 W → At W w.heap.size (lkCells r i c pre id t0 t1 data sp) 24 ∧ At W (w.heap.size + 1) #[.string ⟨#[]⟩, .string ⟨#[]⟩] 26 ∧ At W (w.heap.size + 2) #[.string ⟨#[]⟩, .string ⟨#[]⟩] 26 ∧ PairTab W) := hide (fun W h => ⟨xa'.below h, xb'.below h, xc.below h, ht1.below h hlz⟩)
  have HCells : Hid (∀ W, Below W1.heap.size W1 W → W.cell? ⟨w.heap.size, 0, none⟩ = some (.int .i64 r) ∧ W.cell? ⟨w.heap.size, 1, none⟩ = some (.int .i64 i) ∧ W.cell? ⟨w.heap.size, 2, none⟩ = some (.int .i64 c) ∧ W.cell? ⟨w.heap.size, 3, none⟩ = some (.string pre) ∧ W.cell? ⟨w.heap.size, 4, none⟩ = some (.string id) ∧ W.cell? ⟨w.heap.size, 5, none⟩ = some (.int .i64 t0) ∧ W.cell? ⟨w.heap.size, 6, none⟩ = some (.int .i64 t1) ∧ W.cell? ⟨w.heap.size, 7, none⟩ = some (.string data) ∧ W.cell? ⟨w.heap.size, 8, none⟩ = some (.int .i64 sp)) := hide (fun W h => by
    have x := (unhide HC W h).1
    exact ⟨x.cell rfl, x.cell rfl, x.cell rfl, x.cell rfl, x.cell rfl, x.cell rfl, x.cell rfl, x.cell rfl, x.cell rfl⟩)
  have hn3 : w.heap.size + 3 ≤ W1.heap.size := by rw [hW1]; simp
  have HP : Hid (∀ n : Int, -9223372036854775808 ≤ n ∧ n ≤ 9223372036854775807 → ∀ W, Below W1.heap.size W1 W → Calls Tryz.prog 8 #[.int .i64 n] W fun e w' => e = .returned (.agg #[.string (prP n), .string (prQ n)]) ∧ Below W.heap.size W w') := hide (fun n hn W hb => pair_fun n W hn (unhide HC W hb).2.2.2)
  have P1 := hide (unhide HP r hr); have P2 := hide (unhide HP i hi); have P3 := hide (unhide HP c hc)
  obtain ⟨c0, c1, c2, _⟩ := unhide HCells W1 (Below.refl _ _)
  have HW1 := hide hW1; have HB := hide hB
  clear xa xb xc xa' xb' ba bb bc la lb hWa hWb hW1 hB ht ht1 hlz HP
  unfold lkCells at HW1 ⊢
  have MR : Hid (∀ W, Calls Tryz.prog 9 #[.agg #[.string (prP r), .string (prQ r)]] W fun e w' => e = .returned (.tuple #[.string (prM r), .int .i64 0]) ∧ Below W.heap.size W w') := hide (fun W => (modulus_any (prP r) (prQ r) W).mono (by rw [pr_secret r]; exact fun _ _ h => h))
  have MI : Hid (∀ W, Calls Tryz.prog 9 #[.agg #[.string (prP i), .string (prQ i)]] W fun e w' => e = .returned (.tuple #[.string (prM i), .int .i64 0]) ∧ Below W.heap.size W w') := hide (fun W => (modulus_any (prP i) (prQ i) W).mono (by rw [pr_secret i]; exact fun _ _ h => h))
  have MC : Hid (∀ W, Calls Tryz.prog 9 #[.agg #[.string (prP c), .string (prQ c)]] W fun e w' => e = .returned (.tuple #[.string (prM c), .int .i64 0]) ∧ Below W.heap.size W w') := hide (fun W => (modulus_any (prP c) (prQ c) W).mono (by rw [pr_secret c]; exact fun _ _ h => h))
  have NA := hide (fun W => certifyKey_any (prP r) (prQ r) 1 pre t0 (prM i) ⟨#[]⟩ W hp h0)
  have NB := hide (fun W => certifyKey_any (prP i) (prQ i) 2 id t1 (prM c) data W hd h1)
  have SA := hide (fun h => ckS_size (p := prP r) (q := prQ r) (k := 1) (o := pre) (t := t0) (m := prM i) (beside := ⟨#[]⟩) h)
  have SB := hide (fun h => ckS_size (p := prP i) (q := prQ i) (k := 2) (o := id) (t := t1) (m := prM c) (beside := data) h)
  generalize ckE (prP r) (prQ r) 1 pre t0 (prM i) ⟨#[]⟩ = ea at *
  generalize ckS (prP r) (prQ r) 1 pre t0 (prM i) ⟨#[]⟩ = sa0 at *
  generalize ckR (prP r) (prQ r) 1 pre t0 (prM i) ⟨#[]⟩ = ra at *
  generalize ckE (prP i) (prQ i) 2 id t1 (prM c) data = eb at *
  generalize ckS (prP i) (prQ i) 2 id t1 (prM c) data = sb0 at *
  generalize ckR (prP i) (prQ i) 2 id t1 (prM c) data = rb at *
  generalize prM r = mr at *
  generalize prM i = mi at *
  generalize prM c = mc at *
  clear hp hd h0 h1
  obtain ⟨er, her⟩ : ∃ er, er = if ea = 0 then eb else ea := ⟨_, rfl⟩
  rw [← her]
  have HS : Hid (er = 0 → (40 ≤ sa0.size ∧ sa0.size ≤ 96) ∧ (40 ≤ sb0.size ∧ sb0.size ≤ 96)) := hide (fun h => by
    by_cases he : ea = 0
    · rw [if_pos he] at her
      exact ⟨unhide SA he, unhide SB (her.symm.trans h)⟩
    · rw [if_neg he] at her
      exact absurd (her.symm.trans h) he)
  have HER := hide her
  clear SA SB her
  generalize hPr : prP r = pr at *
  generalize hQr : prQ r = qr at *
  generalize hPi : prP i = pi at *
  generalize hQi : prQ i = qi at *
  generalize hPc : prP c = pc at *
  generalize hQc : prQ c = qc at *
  go_enter Tryz.func5, Tryz.ntmps5
  go_upto_region 1 with fail
  rw [← unhide HW1]
  refine wp_drawnJ (by kernel_rfl) 115 (by rfl) (by kernel_rfl) (by kernel_rfl) (JX W1.heap.size W1 34 (knX w.heap.size r i c pr qr pi qi pc qc) (fun m => if m = 0 then .string pr else if m = 1 then .string pi else .string pc) (fun m => if m = 0 then .string qr else if m = 1 then .string qi else .string qc)) ?_ ?_ ?_
  · exact ⟨(Below.refl _ _).drew, Nat.le_refl _, fun _ _ _ h => absurd h Bool.false_ne_true, fun _ _ h => absurd h Bool.false_ne_true, fun _ _ h => absurd h Bool.false_ne_true, fun _ _ _ _ _ h => absurd h Bool.false_ne_true⟩
  · have hKN := knX_lt (b := w.heap.size) (r := r) (i := i) (c := c) (pr := pr) (qr := qr) (pi := pi) (qi := qi) (pc := pc) (qc := qc)
    refine ⟨?_, ?_, ?_, ?_, ?_, ?_, ?_, ?_, ?_, ?_, ?_, ?_, ?_, ?_, ?_, trivial⟩
    · intro S ac wx hJ hS hw hoff
      have e1 : ac.eval (.tmp 1) = .pointer (some ⟨w.heap.size, 0, none⟩) := (hoff 1 (by kernel_rfl)).trans rfl
      have g1 := evT e1
      refine Does.value (.pointer (some ⟨w.heap.size, 0, none⟩)) wx ?_ (hJ.val (i := 0) (by decide) rfl (Below.refl _ _))
      go_simp
    · intro S ac wx hJ hS hw hoff
      have e1 : ac.eval (.tmp 21) = .pointer (some ⟨w.heap.size, 0, none⟩) := hJ.v 0 _ rfl (hw 0 (by kernel_rfl))
      have g1 := evT e1
      have d1 := (unhide HCells wx hJ.g).1
      refine Does.value (.int .i64 r) wx ?_ (hJ.val (i := 1) (by decide) rfl (Below.refl _ _))
      go_simp
    · intro S ac wx hJ hS hw hoff
      have e1 : ac.eval (.tmp 22) = .int .i64 r := hJ.v 1 _ rfl (hw 1 (by kernel_rfl))
      have g1 := evT e1
      refine does_call1 8 (.tmp 22) _ rfl _ e1 entPair (unhide P1 wx hJ.g) ?_
      rintro e wy ⟨rfl, hy⟩
      exact ⟨_, rfl, hJ.val (i := 2) (by decide) rfl hy⟩
    · intro S ac wx hJ hS hw hoff
      have e1 : ac.eval (.tmp 1) = .pointer (some ⟨w.heap.size, 0, none⟩) := (hoff 1 (by kernel_rfl)).trans rfl
      have g1 := evT e1
      refine Does.value (.pointer (some ⟨w.heap.size, 1, none⟩)) wx ?_ (hJ.val (i := 3) (by decide) rfl (Below.refl _ _))
      go_simp
    · intro S ac wx hJ hS hw hoff
      have e1 : ac.eval (.tmp 24) = .pointer (some ⟨w.heap.size, 1, none⟩) := hJ.v 3 _ rfl (hw 3 (by kernel_rfl))
      have g1 := evT e1
      have d1 := (unhide HCells wx hJ.g).2.1
      refine Does.value (.int .i64 i) wx ?_ (hJ.val (i := 4) (by decide) rfl (Below.refl _ _))
      go_simp
    · intro S ac wx hJ hS hw hoff
      have e1 : ac.eval (.tmp 25) = .int .i64 i := hJ.v 4 _ rfl (hw 4 (by kernel_rfl))
      have g1 := evT e1
      refine does_call1 8 (.tmp 25) _ rfl _ e1 entPair (unhide P2 wx hJ.g) ?_
      rintro e wy ⟨rfl, hy⟩
      exact ⟨_, rfl, hJ.val (i := 5) (by decide) rfl hy⟩
    · intro S ac wx hJ hS hw hoff
      have e1 : ac.eval (.tmp 1) = .pointer (some ⟨w.heap.size, 0, none⟩) := (hoff 1 (by kernel_rfl)).trans rfl
      have g1 := evT e1
      refine Does.value (.pointer (some ⟨w.heap.size, 2, none⟩)) wx ?_ (hJ.val (i := 6) (by decide) rfl (Below.refl _ _))
      go_simp
    · intro S ac wx hJ hS hw hoff
      have e1 : ac.eval (.tmp 27) = .pointer (some ⟨w.heap.size, 2, none⟩) := hJ.v 6 _ rfl (hw 6 (by kernel_rfl))
      have g1 := evT e1
      have d1 := (unhide HCells wx hJ.g).2.2.1
      refine Does.value (.int .i64 c) wx ?_ (hJ.val (i := 7) (by decide) rfl (Below.refl _ _))
      go_simp
    · intro S ac wx hJ hS hw hoff
      have e1 : ac.eval (.tmp 28) = .int .i64 c := hJ.v 7 _ rfl (hw 7 (by kernel_rfl))
      have g1 := evT e1
      refine does_call1 8 (.tmp 28) _ rfl _ e1 entPair (unhide P3 wx hJ.g) ?_
      rintro e wy ⟨rfl, hy⟩
      exact ⟨_, rfl, hJ.val (i := 8) (by decide) rfl hy⟩
    · intro S ac wx hJ hS hw hoff
      refine Does.value (.pointer (some ⟨wx.heap.size, 0, none⟩)) (wx.alloc (.cells #[.string ⟨#[]⟩, .string ⟨#[]⟩] 34)) ?_ (hJ.make (m := 0) (by decide) hKN hS _ _)
      go_simp
    · intro S ac wx hJ hS hw hoff
      refine Does.value (.pointer (some ⟨wx.heap.size, 0, none⟩)) (wx.alloc (.cells #[.string ⟨#[]⟩, .string ⟨#[]⟩] 34)) ?_ (hJ.make (m := 1) (by decide) hKN hS _ _)
      go_simp
    · intro S ac wx hJ hS hw hoff
      refine Does.value (.pointer (some ⟨wx.heap.size, 0, none⟩)) (wx.alloc (.cells #[.string ⟨#[]⟩, .string ⟨#[]⟩] 34)) ?_ (hJ.make (m := 2) (by decide) hKN hS _ _)
      go_simp
    · intro S ac wx hJ hS hw hoff
      obtain ⟨q, x, y, hq, hql, hA, _⟩ := hJ.a 0 (by decide) (hw 9 (by kernel_rfl))
      have e1 : ac.eval (.tmp 6) = .pointer (some ⟨q, 0, none⟩) := hq
      have g1 := evT e1
      have e2 : ac.eval (.tmp 23) = .agg #[.string pr, .string qr] := hJ.v 2 _ rfl (hw 2 (by kernel_rfl))
      have g2 := evT e2
      have f0 := hA.soft (j := 0)
      have f1 := hA.soft (j := 1)
      have c0 := hA.cell (j := 0) rfl
      have c1 := hA.cell (j := 1) rfl
      refine Does.skip ((wx.setCell ⟨q, 0, none⟩ (.string pr)).setCell ⟨q, 1, none⟩ (.string qr)) ?_ (hJ.fill (m := 0) (by decide) hKN (hw 9 (by kernel_rfl)) hq _)
      go_simp
    · intro S ac wx hJ hS hw hoff
      obtain ⟨q, x, y, hq, hql, hA, _⟩ := hJ.a 1 (by decide) (hw 10 (by kernel_rfl))
      have e1 : ac.eval (.tmp 7) = .pointer (some ⟨q, 0, none⟩) := hq
      have g1 := evT e1
      have e2 : ac.eval (.tmp 26) = .agg #[.string pi, .string qi] := hJ.v 5 _ rfl (hw 5 (by kernel_rfl))
      have g2 := evT e2
      have f0 := hA.soft (j := 0)
      have f1 := hA.soft (j := 1)
      have c0 := hA.cell (j := 0) rfl
      have c1 := hA.cell (j := 1) rfl
      refine Does.skip ((wx.setCell ⟨q, 0, none⟩ (.string pi)).setCell ⟨q, 1, none⟩ (.string qi)) ?_ (hJ.fill (m := 1) (by decide) hKN (hw 10 (by kernel_rfl)) hq _)
      go_simp
    · intro S ac wx hJ hS hw hoff
      obtain ⟨q, x, y, hq, hql, hA, _⟩ := hJ.a 2 (by decide) (hw 11 (by kernel_rfl))
      have e1 : ac.eval (.tmp 8) = .pointer (some ⟨q, 0, none⟩) := hq
      have g1 := evT e1
      have e2 : ac.eval (.tmp 29) = .agg #[.string pc, .string qc] := hJ.v 8 _ rfl (hw 8 (by kernel_rfl))
      have g2 := evT e2
      have f0 := hA.soft (j := 0)
      have f1 := hA.soft (j := 1)
      have c0 := hA.cell (j := 0) rfl
      have c1 := hA.cell (j := 1) rfl
      refine Does.skip ((wx.setCell ⟨q, 0, none⟩ (.string pc)).setCell ⟨q, 1, none⟩ (.string qc)) ?_ (hJ.fill (m := 2) (by decide) hKN (hw 11 (by kernel_rfl)) hq _)
      go_simp
  · intro ac wx S hdf hsz hoff hall hJ
    obtain ⟨q0, x0, y0, hq0, _, hA0, hc0⟩ := hJ.a 0 (by decide) (hall 9 (by decide))
    obtain ⟨hx0, hy0⟩ := hc0 (hall 12 (by decide))
    replace hx0 : x0 = .string pr := hx0
    replace hy0 : y0 = .string qr := hy0
    subst hx0
    subst hy0
    have h6 : ac.tmps.getD 6 undef = .pointer (some ⟨q0, 0, none⟩) := hq0
    obtain ⟨q1, x1, y1, hq1, _, hA1, hc1⟩ := hJ.a 1 (by decide) (hall 10 (by decide))
    obtain ⟨hx1, hy1⟩ := hc1 (hall 13 (by decide))
    replace hx1 : x1 = .string pi := hx1
    replace hy1 : y1 = .string qi := hy1
    subst hx1
    subst hy1
    have h7 : ac.tmps.getD 7 undef = .pointer (some ⟨q1, 0, none⟩) := hq1
    obtain ⟨q2, x2, y2, hq2, _, hA2, hc2⟩ := hJ.a 2 (by decide) (hall 11 (by decide))
    obtain ⟨hx2, hy2⟩ := hc2 (hall 14 (by decide))
    replace hx2 : x2 = .string pc := hx2
    replace hy2 : y2 = .string qc := hy2
    subst hx2
    subst hy2
    have h8 : ac.tmps.getD 8 undef = .pointer (some ⟨q2, 0, none⟩) := hq2
    have h21 : ac.tmps.getD 21 undef = .pointer (some ⟨w.heap.size, 0, none⟩) := hJ.v 0 _ rfl (hall 0 (by decide))
    have h22 : ac.tmps.getD 22 undef = .int .i64 r := hJ.v 1 _ rfl (hall 1 (by decide))
    have h23 : ac.tmps.getD 23 undef = .agg #[.string pr, .string qr] := hJ.v 2 _ rfl (hall 2 (by decide))
    have h24 : ac.tmps.getD 24 undef = .pointer (some ⟨w.heap.size, 1, none⟩) := hJ.v 3 _ rfl (hall 3 (by decide))
    have h25 : ac.tmps.getD 25 undef = .int .i64 i := hJ.v 4 _ rfl (hall 4 (by decide))
    have h26 : ac.tmps.getD 26 undef = .agg #[.string pi, .string qi] := hJ.v 5 _ rfl (hall 5 (by decide))
    have h27 : ac.tmps.getD 27 undef = .pointer (some ⟨w.heap.size, 2, none⟩) := hJ.v 6 _ rfl (hall 6 (by decide))
    have h28 : ac.tmps.getD 28 undef = .int .i64 c := hJ.v 7 _ rfl (hall 7 (by decide))
    have h29 : ac.tmps.getD 29 undef = .agg #[.string pc, .string qc] := hJ.v 8 _ rfl (hall 8 (by decide))
    have hmix := mix_eq [false, false, false, false, false, false, true, true, true, false, false, false, false, false, false, false, false, false, false, false, false, true, true, true, true, true, true, true, true, true, false, false, false, false, false, false, false, false, false, false, false, false, false, false, false, false, false, false, false, false, false, false, false, false, false, false, false, false, false, false, false, false, false, false, false, false, false, false, false, false, false, false, false, false, false, false, false, false, false, false, false, false, false, false, false, false, false, false, false, false, false, false, false, false, false, false, false, false, false, false, false, false, false, false, false, false, false, false, false, false, false, false, false, false, false] rfl rfl hsz hdf (by kernel_rfl) hoff
    have hg := hJ.g
    have hn := hJ.n
    have hnx := hJ.n
    clear hoff hall hsz hdf hJ hc0 hc1 hc2 hq0 hq1 hq2
    simp only [mixL, Nat.reduceAdd, h6, h7, h8, h21, h22, h23, h24, h25, h26, h27, h28, h29] at hmix
    rw [hmix]
    clear hmix h6 h7 h8 h21 h22 h23 h24 h25 h26 h27 h28 h29
    have HQ : Hid (∀ W, Below wx.heap.size wx W → Below W1.heap.size W1 W ∧ W.cell? ⟨q0, 0, none⟩ = some (.string pr) ∧ W.cell? ⟨q0, 1, none⟩ = some (.string qr) ∧ W.cell? ⟨q1, 0, none⟩ = some (.string pi) ∧ W.cell? ⟨q1, 1, none⟩ = some (.string qi) ∧ W.cell? ⟨q2, 0, none⟩ = some (.string pc) ∧ W.cell? ⟨q2, 1, none⟩ = some (.string qc)) := hide (fun W h => ⟨hg.trans (h.mono hn), (hA0.below h).cell rfl, (hA0.below h).cell rfl, (hA1.below h).cell rfl, (hA1.below h).cell rfl, (hA2.below h).cell rfl, (hA2.below h).cell rfl⟩)
    clear hA0 hA1 hA2 hg hn P1 P2 P3 hPr hQr hPi hQi hPc hQc c0 c1 c2
    obtain ⟨hb, c0, c1, c2, c3, c4, c5⟩ := unhide HQ wx (Below.refl _ _)
    clear hb
    go_wp2_with fail
    refine (unhide MR _).mono ?_
    rintro e y1 ⟨rfl, k1⟩
    clear c0 c1 c2 c3 c4 c5
    obtain ⟨hb, c0, c1, c2, c3, c4, c5⟩ := unhide HQ y1 k1
    have K1 := hide k1
    clear hb k1 MR
    go_wp2_with fail
    refine (unhide MI _).mono ?_
    rintro e y2 ⟨rfl, k2⟩
    have k2 := ext_callB (unhide K1) k2
    clear c0 c1 c2 c3 c4 c5
    obtain ⟨hb, c0, c1, c2, c3, c4, c5⟩ := unhide HQ y2 k2
    have K2 := hide k2
    clear hb k2 MI K1
    go_wp2_with fail
    refine (unhide MC _).mono ?_
    rintro e y3 ⟨rfl, k3⟩
    have k3 := ext_callB (unhide K2) k3
    clear c0 c1 c2 c3 c4 c5
    obtain ⟨hb, c0, c1, c2, c3, _⟩ := unhide HQ y3 k3
    obtain ⟨_, _, _, d3, d4, d5, d6, d7, d8⟩ := unhide HCells y3 hb
    have K3 := hide k3
    clear hb k3 MC K2
    go_wp2_with fail
    refine (unhide NA _).mono ?_
    rintro e y4 ⟨rfl, k4⟩
    have k4 := ext_callB (unhide K3) k4
    obtain ⟨y4', hy4⟩ : ∃ y', y' = y4.alloc (.cells #[.string sa0, .string ra] 26) := ⟨_, rfl⟩
    have xa4 : At y4' y4.heap.size #[.string sa0, .string ra] 26 := by rw [hy4]; exact At.new _ _ _
    have hl4 : w.heap.size + 3 ≤ y4.heap.size := Nat.le_trans hn3 (Nat.le_trans hnx k4.size)
    have k4' : Below wx.heap.size wx y4' := by rw [hy4]; exact k4.alloc k4.size _
    clear c0 c1 c2 c3 d3 d4 d5 d6 d7 d8 k4 NA K3
    obtain ⟨hb, c0, c1, c2, c3, _⟩ := unhide HQ y4' k4'
    obtain ⟨_, _, _, d3, d4, d5, d6, d7, d8⟩ := unhide HCells y4' hb
    rw [hy4] at c2 c3 d4 d6 d7
    have K4 := hide k4'; have XA4 := hide xa4; have HY4 := hide hy4
    clear hb k4' xa4 hy4 c0 c1 d3 d5 d8
    go_upto_region 6 with fail
    go_wp2_with fail
    rw [← unhide HY4]
    refine (unhide NB _).mono ?_
    rintro e y5 ⟨rfl, k5⟩
    have xa5 := (unhide XA4).below k5
    have hl45 : y4.heap.size < y5.heap.size := xa5.lt
    have k5 := ext_callB (unhide K4) k5
    obtain ⟨y6, hy6⟩ : ∃ y', y' = y5.alloc (.cells #[.string sb0, .string rb] 26) := ⟨_, rfl⟩
    have hl5 : w.heap.size + 3 ≤ y5.heap.size := Nat.le_trans hn3 (Nat.le_trans hnx k5.size)
    have xb6 : At y6 y5.heap.size #[.string sb0, .string rb] 26 := by rw [hy6]; exact At.new _ _ _
    have xa6 : At y6 y4.heap.size #[.string sa0, .string ra] 26 := xa5.below (by rw [hy6]; exact (Below.refl _ _).alloc (Nat.le_refl _) _)
    have k6 : Below wx.heap.size wx y6 := by rw [hy6]; exact k5.alloc k5.size _
    clear c2 c3 d4 d6 d7 k5 NB K4 xa5
    obtain ⟨hb, _⟩ := unhide HQ y6 k6
    obtain ⟨_, _, _, _, _, _, _, _, d8⟩ := unhide HCells y6 hb
    have HY6 := hide hy6; have K6 := hide hb; have XB := hide xb6; have XA := hide xa6
    rw [hy6] at d8
    clear hb k6 xb6 xa6 hy6 XA4 HY4
    have HLT := hide (And.intro hl4 (And.intro hl5 hl45))
    clear hl4 hl5 hl45
    have hcase : (ea = 0 ∧ er = eb) ∨ (ea ≠ 0 ∧ er = ea) := by
      by_cases he : ea = 0
      · exact Or.inl ⟨he, (unhide HER).trans (if_pos he)⟩
      · exact Or.inr ⟨he, (unhide HER).trans (if_neg he)⟩
    clear HER
    rcases hcase with ⟨rfl, rfl⟩ | ⟨hne, rfl⟩
    case inl =>
      go_upto_region 9 with fail
      rw [← unhide HY6] at d8 ⊢
      have hla : w.heap.size + 3 ≤ y4.heap.size ∧ w.heap.size + 3 ≤ y5.heap.size ∧ y4.heap.size < y5.heap.size := unhide HLT
      generalize y5.heap.size = gb at *
      generalize y4.heap.size = ga at *
      have n1 : gb ≠ w.heap.size + 1 := by omega
      have n2 : gb ≠ w.heap.size + 1 + 1 := by omega
      have n3 : ga ≠ w.heap.size + 1 := by omega
      have n4 : ga ≠ w.heap.size + 1 + 1 := by omega
      have n5 : w.heap.size + 1 ≠ w.heap.size + 1 + 1 := by omega
      have m1 := n1.symm
      have m2 := n2.symm
      have m3 := n3.symm
      have m4 := n4.symm
      have m5 := n5.symm
      have nab : ga ≠ gb := by omega
      have hla' : w.heap.size ≤ ga := by omega
      have hlb : w.heap.size ≤ gb := by omega
      have HLW := hide (show w.heap.size + 3 ≤ y6.heap.size from Nat.le_trans hn3 (unhide K6).size)
      clear HY6 hla
      by_cases h0 : sp = 0
      · have HSP : Hid (sp = 0) := hide h0
        go_upto_region 16 with fail
        clear d8
        have xa := unhide XA; have xb := unhide XB; have hbw := unhide K6
        obtain ⟨_, z1, z2, _⟩ := unhide HC _ hbw
        have hbz := (unhide HB).trans (hbw.mono (unhide HB).size)
        clear hbw
        have z2' : At y6 (w.heap.size + 1 + 1) #[.string ⟨#[]⟩, .string ⟨#[]⟩] 26 := z2
        have a0 := xa.cell (j := 0) rfl
        have a1 := xa.cell (j := 1) rfl
        have b0 := xb.cell (j := 0) rfl
        have b1 := xb.cell (j := 1) rfl
        have f0 := z1.soft (j := 0)
        have f1 := z1.soft (j := 1)
        have f2 := z2'.soft (j := 0)
        have f3 := z2'.soft (j := 1)
        have e0 := z1.cell (j := 0) rfl
        have e1 := z1.cell (j := 1) rfl
        have e2 := z2'.cell (j := 0) rfl
        have e3 := z2'.cell (j := 1) rfl
        have r1 := (((z1.set (j := 0) (v := .string sa0)).set (j := 1) (v := .string ra)).other (g := w.heap.size + 1 + 1) (j := 0) (v := .string sb0) n5).other (g := w.heap.size + 1 + 1) (j := 1) (v := .string rb) n5
        have r2 := (((z2'.other (g := w.heap.size + 1) (j := 0) (v := .string sa0) m5).other (g := w.heap.size + 1) (j := 1) (v := .string ra) m5).set (j := 0) (v := .string sb0)).set (j := 1) (v := .string rb)
        have hF := ((((hbz.setCell (p := ⟨w.heap.size + 1, 0, none⟩) (Nat.le_succ _) (.string sa0)).setCell (p := ⟨w.heap.size + 1, 1, none⟩) (Nat.le_succ _) (.string ra)).setCell (p := ⟨w.heap.size + 1 + 1, 0, none⟩) (Nat.le_add_right _ 2) (.string sb0)).setCell (p := ⟨w.heap.size + 1 + 1, 1, none⟩) (Nat.le_add_right _ 2) (.string rb)).drew
        have q0 := r1.cell (j := 0) rfl
        have q1 := r1.cell (j := 1) rfl
        have q2 := r2.cell (j := 0) rfl
        have q3 := r2.cell (j := 1) rfl
        have HF := hide hF; have HQ := hide (And.intro q0 (And.intro q1 (And.intro q2 q3)))
        clear hF r1 r2 z1 z2 z2' q0 q1 q2 q3 xa xb hbz
        go_region
        all_goals
          obtain ⟨q0, q1, q2, q3⟩ := unhide HQ
          clear a0 a1 b0 b1 f0 f1 f2 f3 e0 e1 e2 e3 n1 n2 n3 n4 n5 m1 m2 m3 m4 m5
          go_wp2
          exact bodyPost_ret (v := .tuple #[.string mr, .agg #[.string sa0, .string ra], .agg #[.string sb0, .string rb], .int .i64 er]) (by simp [results, Tryz.results5, go_sem, q0, q1, q2, q3]) rfl ⟨⟨_, _, rfl, fun _ => ⟨rfl, rfl⟩⟩, unhide HF⟩
      · have t0' : (sp != 0) = true := by simpa using h0
        by_cases he : er = 0
        case neg =>
          have t1' : (er == 0) = false := by simpa using he
          have t2' : decide (er = 0) = false := decide_eq_false he
          go_upto_region 16 with fail
          clear d8
          have xa := unhide XA; have xb := unhide XB; have hbw := unhide K6
          obtain ⟨_, z1, z2, _⟩ := unhide HC _ hbw
          have hbz := (unhide HB).trans (hbw.mono (unhide HB).size)
          clear hbw
          have z2' : At y6 (w.heap.size + 1 + 1) #[.string ⟨#[]⟩, .string ⟨#[]⟩] 26 := z2
          have a0 := xa.cell (j := 0) rfl
          have a1 := xa.cell (j := 1) rfl
          have b0 := xb.cell (j := 0) rfl
          have b1 := xb.cell (j := 1) rfl
          have f0 := z1.soft (j := 0)
          have f1 := z1.soft (j := 1)
          have f2 := z2'.soft (j := 0)
          have f3 := z2'.soft (j := 1)
          have e0 := z1.cell (j := 0) rfl
          have e1 := z1.cell (j := 1) rfl
          have e2 := z2'.cell (j := 0) rfl
          have e3 := z2'.cell (j := 1) rfl
          have r1 := (((z1.set (j := 0) (v := .string sa0)).set (j := 1) (v := .string ra)).other (g := w.heap.size + 1 + 1) (j := 0) (v := .string sb0) n5).other (g := w.heap.size + 1 + 1) (j := 1) (v := .string rb) n5
          have r2 := (((z2'.other (g := w.heap.size + 1) (j := 0) (v := .string sa0) m5).other (g := w.heap.size + 1) (j := 1) (v := .string ra) m5).set (j := 0) (v := .string sb0)).set (j := 1) (v := .string rb)
          have hF := ((((hbz.setCell (p := ⟨w.heap.size + 1, 0, none⟩) (Nat.le_succ _) (.string sa0)).setCell (p := ⟨w.heap.size + 1, 1, none⟩) (Nat.le_succ _) (.string ra)).setCell (p := ⟨w.heap.size + 1 + 1, 0, none⟩) (Nat.le_add_right _ 2) (.string sb0)).setCell (p := ⟨w.heap.size + 1 + 1, 1, none⟩) (Nat.le_add_right _ 2) (.string rb)).drew
          have q0 := r1.cell (j := 0) rfl
          have q1 := r1.cell (j := 1) rfl
          have q2 := r2.cell (j := 0) rfl
          have q3 := r2.cell (j := 1) rfl
          have HF := hide hF; have HQ := hide (And.intro q0 (And.intro q1 (And.intro q2 q3)))
          clear hF r1 r2 z1 z2 z2' q0 q1 q2 q3 xa xb hbz
          go_region
          all_goals
            obtain ⟨q0, q1, q2, q3⟩ := unhide HQ
            clear a0 a1 b0 b1 f0 f1 f2 f3 e0 e1 e2 e3 n1 n2 n3 n4 n5 m1 m2 m3 m4 m5
            go_wp2
            exact bodyPost_ret (v := .tuple #[.string mr, .agg #[.string sa0, .string ra], .agg #[.string sb0, .string rb], .int .i64 er]) (by simp [results, Tryz.results5, go_sem, q0, q1, q2, q3]) rfl ⟨⟨_, _, rfl, fun _ => ⟨rfl, rfl⟩⟩, unhide HF⟩
        case pos =>
        subst he
        obtain ⟨ht2, ht⟩ := tmod2 sp
        obtain ⟨v, hv⟩ : ∃ v, Int.tmod sp 2 = v := ⟨_, rfl⟩
        rw [hv] at ht ht2
        have e3 : IntKind.i64.wrap v = v := wrap_same v ⟨by omega, by omega⟩
        by_cases hv0 : v = 0
        · subst hv0
          obtain ⟨hz1, hz2⟩ := (unhide HS rfl).2
          have xg := unhide XB
          have g0 := xg.cell (j := 0) rfl
          have hcv := Lib.run_convert_string_bytes (P := Tryz.prog) y6 9 43 5 sb0 Tryz.underlying9 Tryz.underlying43 Tryz.underlying5
          go_upto_region 14 with fail
          obtain ⟨W7, hW7⟩ : ∃ W, W = Lib.bytesWorld y6 5 sb0 := ⟨_, rfl⟩
          have hbx : Below y6.heap.size y6 W7 := by
            rw [hW7]
            exact ⟨rfl, rfl, rfl, by rw [Lib.bytesWorld_size]; omega, fun k hk => Lib.bytesWorld_at_old _ _ _ _ hk⟩
          have hrow : ∀ q, q < sb0.size → W7.cell? ⟨y6.heap.size, q, none⟩ = some (.int .u8 (sb0.data.toList.getD q 0).toNat) := by
            intro q hq
            rw [hW7]
            exact Lib.bytesWorld_cell y6 5 sb0 q hq
          have hfrz : ∀ q, q < sb0.size → W7.frozen? ⟨y6.heap.size, q, none⟩ = false := by
            intro q hq
            have h3 := Lib.bytesWorld_at_new y6 5 sb0
            rw [hW7]
            have hc : sb0.size ≤ (Lib.bytesCells y6 5 sb0).size := by simp [Lib.bytesCells]
            simp [World.frozen?, h3]
            omega
          rw [← hW7]
          clear hcv hW7 g0 d8
          have hx1 := chN_lt sp (sb0.size : Int) (by omega)
          have hx2 := chN_lt (Int.tdiv sp 7) 255 (by decide)
          have N1 := hide (fun W => choose_any sp (sb0.size : Int) W hs ⟨by omega, by omega⟩)
          have N2 := hide (fun W => choose_any (Int.tdiv sp 7) 255 W (tdiv7 sp hs) (by decide))
          obtain ⟨u, hu⟩ : ∃ u, Int.tdiv sp 7 = u := ⟨_, rfl⟩
          have hur := tdiv7 sp hs
          rw [hu] at N2 hx2 hur
          have eu : IntKind.i64.wrap u = u := wrap_same u hur
          generalize chN sp (sb0.size : Int) = x1 at *
          generalize chN u 255 = x2 at *
          have hx1' : x1 < sb0.size := by omega
          have c0 := hrow x1 hx1'
          have c1 := hfrz x1 hx1'
          obtain ⟨b, hb⟩ : ∃ b : Nat, b = (sb0.data.toList.getD x1 0).toNat := ⟨_, rfl⟩
          have hb256 : b < 256 := by rw [hb]; exact UInt8.toNat_lt _
          rw [← hb] at c0
          have hX := xor_u8 b (1 + x2) hb256 (by omega)
          have hwr : IntKind.u8.wrap ((1 + x2 : Nat) : Int) = ((1 + x2 : Nat) : Int) := wraps_u8 _ (by omega) (by omega)
          have hwr2 : IntKind.i64.wrap ((1 : Int) + (x2 : Int)) = ((1 + x2 : Nat) : Int) := by rw [show (1 : Int) + (x2 : Int) = ((1 + x2 : Nat) : Int) by omega]; exact wraps_i64 _ (by omega) (by omega)
          have hxl : (b ^^^ (1 + x2)) < 2 ^ 8 := Nat.xor_lt_two_pow (n := 8) (by omega) (by omega)
          generalize b ^^^ (1 + x2) = xv at *
          have hwr' : IntKind.u8.wrap ((1 : Int) + (x2 : Int)) = (1 : Int) + (x2 : Int) := by rw [show (1 : Int) + (x2 : Int) = ((1 + x2 : Nat) : Int) by omega]; exact hwr
          have hX' : bits .xor .u8 (b : Int) ((1 : Int) + (x2 : Int)) = (xv : Int) := by rw [show (1 : Int) + (x2 : Int) = ((1 + x2 : Nat) : Int) by omega]; exact hX
          have d8 := (unhide HCells W7 ((unhide K6).trans (hbx.mono (unhide K6).size))).2.2.2.2.2.2.2.2
          have i1 : (x1 : Int) < (sb0.size : Int) := by omega
          have hn8 : w.heap.size ≠ y6.heap.size := by
            have := unhide HLW
            omega
          have D9 : ∀ vv, (W7.setCell ⟨y6.heap.size, x1, none⟩ vv).cell? ⟨w.heap.size, 8, none⟩ = some (.int .i64 sp) := fun vv =>
            ((unhide HC W7 ((unhide K6).trans (hbx.mono (unhide K6).size))).1.other hn8).cell rfl
          clear hn8
          generalize hg7 : y6.heap.size = g7 at *
          have HBX := hide hbx; have HROW := hide hrow; have HFRZ := hide hfrz; have HNUM := hide (And.intro hx1' (And.intro hz1 (And.intro hz2 hxl))); have XB7 := hide xg
          clear hbx hrow hfrz hx1' hz1 hz2 hx1 hx2 hb hb256 hxl xg hur
          refine wp_drawnJ (by kernel_rfl) 115 (by rfl) (by kernel_rfl) (by kernel_rfl) (SInv 16 (vals [.slice (some ⟨g7, 0, none⟩) sb0.size (grownCap y6 sb0.size 0 5), .pointer (some ⟨w.heap.size, 8, none⟩), .int .i64 sp, .slice (some ⟨g7, 0, none⟩) sb0.size (grownCap y6 sb0.size 0 5), .int .i64 (sb0.size : Int), .int .i64 (x1 : Int), .pointer (some ⟨g7, x1, none⟩), .int .u8 (b : Int), .pointer (some ⟨w.heap.size, 8, none⟩), .int .i64 sp, .int .i64 u, .int .i64 (x2 : Int), .int .i64 ((1 + x2 : Nat) : Int), .int .u8 ((1 + x2 : Nat) : Int), .int .u8 (xv : Int), .pointer (some ⟨g7, x1, none⟩)]) W7.drew (W7.drew.setCell ⟨g7, x1, none⟩ (.int .u8 (xv : Int)))) ?_ ?_ ?_
          · exact ⟨fun _ _ h => absurd h Bool.false_ne_true, fun _ => rfl, fun h => absurd h Bool.false_ne_true⟩
          · refine ⟨?_, ?_, ?_, ?_, ?_, ?_, ?_, ?_, ?_, ?_, ?_, ?_, ?_, ?_, ?_, ?_, ?_, trivial⟩
            · intro S ac wx hJ hS hw hoff
              obtain ⟨_, hwx⟩ := hJ.same (i := 0) (by decide) hS
              subst hwx
              have e20 : ac.eval (.tmp 20) = .slice (some ⟨g7, 0, none⟩) sb0.size (grownCap y6 sb0.size 0 5) := (hoff 20 (by kernel_rfl)).trans rfl
              have g20 := evT e20
              refine Does.value (.slice (some ⟨g7, 0, none⟩) sb0.size (grownCap y6 sb0.size 0 5)) _ ?_ (hJ.val (i := 0) (by decide) hS _ rfl)
              clear hJ hw hoff
              go_simp
            · intro S ac wx hJ hS hw hoff
              obtain ⟨_, hwx⟩ := hJ.same (i := 1) (by decide) hS
              subst hwx
              have e1 : ac.eval (.tmp 1) = .pointer (some ⟨w.heap.size, 0, none⟩) := (hoff 1 (by kernel_rfl)).trans rfl
              have g1 := evT e1
              refine Does.value (.pointer (some ⟨w.heap.size, 8, none⟩)) _ ?_ (hJ.val (i := 1) (by decide) hS _ rfl)
              clear hJ hw hoff
              go_simp
            · intro S ac wx hJ hS hw hoff
              obtain ⟨_, hwx⟩ := hJ.same (i := 2) (by decide) hS
              subst hwx
              have e91 : ac.eval (.tmp 91) = .pointer (some ⟨w.heap.size, 8, none⟩) := hJ.v 1 (by decide) (hw 1 (by kernel_rfl))
              have g91 := evT e91
              refine Does.value (.int .i64 sp) _ ?_ (hJ.val (i := 2) (by decide) hS _ rfl)
              clear hJ hw hoff
              go_simp
            · intro S ac wx hJ hS hw hoff
              obtain ⟨_, hwx⟩ := hJ.same (i := 3) (by decide) hS
              subst hwx
              have e20 : ac.eval (.tmp 20) = .slice (some ⟨g7, 0, none⟩) sb0.size (grownCap y6 sb0.size 0 5) := (hoff 20 (by kernel_rfl)).trans rfl
              have g20 := evT e20
              refine Does.value (.slice (some ⟨g7, 0, none⟩) sb0.size (grownCap y6 sb0.size 0 5)) _ ?_ (hJ.val (i := 3) (by decide) hS _ rfl)
              clear hJ hw hoff
              go_simp
            · intro S ac wx hJ hS hw hoff
              obtain ⟨_, hwx⟩ := hJ.same (i := 4) (by decide) hS
              subst hwx
              have e93 : ac.eval (.tmp 93) = .slice (some ⟨g7, 0, none⟩) sb0.size (grownCap y6 sb0.size 0 5) := hJ.v 3 (by decide) (hw 3 (by kernel_rfl))
              have g93 := evT e93
              refine Does.value (.int .i64 (sb0.size : Int)) _ ?_ (hJ.val (i := 4) (by decide) hS _ rfl)
              clear hJ hw hoff
              go_simp
            · intro S ac wx hJ hS hw hoff
              obtain ⟨_, hwx⟩ := hJ.same (i := 5) (by decide) hS
              subst hwx
              have e92 : ac.eval (.tmp 92) = .int .i64 sp := hJ.v 2 (by decide) (hw 2 (by kernel_rfl))
              have e94 : ac.eval (.tmp 94) = .int .i64 (sb0.size : Int) := hJ.v 4 (by decide) (hw 4 (by kernel_rfl))
              refine does_call2 10 (.tmp 92) (.tmp 94) _ rfl _ _ e92 e94 entChoose (unhide N1 _) ?_
              rintro e wy ⟨rfl, hy⟩
              have hy' := hy.symm
              subst hy'
              exact ⟨_, rfl, hJ.val (i := 5) (by decide) hS _ rfl⟩
            · intro S ac wx hJ hS hw hoff
              obtain ⟨_, hwx⟩ := hJ.same (i := 6) (by decide) hS
              subst hwx
              have e90 : ac.eval (.tmp 90) = .slice (some ⟨g7, 0, none⟩) sb0.size (grownCap y6 sb0.size 0 5) := hJ.v 0 (by decide) (hw 0 (by kernel_rfl))
              have g90 := evT e90
              have e95 : ac.eval (.tmp 95) = .int .i64 (x1 : Int) := hJ.v 5 (by decide) (hw 5 (by kernel_rfl))
              have g95 := evT e95
              refine Does.value (.pointer (some ⟨g7, x1, none⟩)) _ ?_ (hJ.val (i := 6) (by decide) hS _ rfl)
              clear hJ hw hoff
              go_simp
            · intro S ac wx hJ hS hw hoff
              obtain ⟨_, hwx⟩ := hJ.same (i := 7) (by decide) hS
              subst hwx
              have e96 : ac.eval (.tmp 96) = .pointer (some ⟨g7, x1, none⟩) := hJ.v 6 (by decide) (hw 6 (by kernel_rfl))
              have g96 := evT e96
              refine Does.value (.int .u8 (b : Int)) _ ?_ (hJ.val (i := 7) (by decide) hS _ rfl)
              clear hJ hw hoff
              go_simp
            · intro S ac wx hJ hS hw hoff
              obtain ⟨_, hwx⟩ := hJ.same (i := 8) (by decide) hS
              subst hwx
              have e1 : ac.eval (.tmp 1) = .pointer (some ⟨w.heap.size, 0, none⟩) := (hoff 1 (by kernel_rfl)).trans rfl
              have g1 := evT e1
              refine Does.value (.pointer (some ⟨w.heap.size, 8, none⟩)) _ ?_ (hJ.val (i := 8) (by decide) hS _ rfl)
              clear hJ hw hoff
              go_simp
            · intro S ac wx hJ hS hw hoff
              obtain ⟨_, hwx⟩ := hJ.same (i := 9) (by decide) hS
              subst hwx
              have e98 : ac.eval (.tmp 98) = .pointer (some ⟨w.heap.size, 8, none⟩) := hJ.v 8 (by decide) (hw 8 (by kernel_rfl))
              have g98 := evT e98
              refine Does.value (.int .i64 sp) _ ?_ (hJ.val (i := 9) (by decide) hS _ rfl)
              clear hJ hw hoff
              go_simp
            · intro S ac wx hJ hS hw hoff
              obtain ⟨_, hwx⟩ := hJ.same (i := 10) (by decide) hS
              subst hwx
              have e99 : ac.eval (.tmp 99) = .int .i64 sp := hJ.v 9 (by decide) (hw 9 (by kernel_rfl))
              have g99 := evT e99
              refine Does.value (.int .i64 u) _ ?_ (hJ.val (i := 10) (by decide) hS _ rfl)
              clear hJ hw hoff
              go_simp
            · intro S ac wx hJ hS hw hoff
              obtain ⟨_, hwx⟩ := hJ.same (i := 11) (by decide) hS
              subst hwx
              have e100 : ac.eval (.tmp 100) = .int .i64 u := hJ.v 10 (by decide) (hw 10 (by kernel_rfl))
              refine does_call2 10 (.tmp 100) (.const (.int .i64 255)) _ rfl _ _ e100 rfl entChoose (unhide N2 _) ?_
              rintro e wy ⟨rfl, hy⟩
              have hy' := hy.symm
              subst hy'
              exact ⟨_, rfl, hJ.val (i := 11) (by decide) hS _ rfl⟩
            · intro S ac wx hJ hS hw hoff
              obtain ⟨_, hwx⟩ := hJ.same (i := 12) (by decide) hS
              subst hwx
              have e101 : ac.eval (.tmp 101) = .int .i64 (x2 : Int) := hJ.v 11 (by decide) (hw 11 (by kernel_rfl))
              have g101 := evT e101
              refine Does.value (.int .i64 ((1 + x2 : Nat) : Int)) _ ?_ (hJ.val (i := 12) (by decide) hS _ rfl)
              clear hJ hw hoff
              go_simp
            · intro S ac wx hJ hS hw hoff
              obtain ⟨_, hwx⟩ := hJ.same (i := 13) (by decide) hS
              subst hwx
              have e102 : ac.eval (.tmp 102) = .int .i64 ((1 + x2 : Nat) : Int) := hJ.v 12 (by decide) (hw 12 (by kernel_rfl))
              have g102 := evT e102
              refine Does.value (.int .u8 ((1 + x2 : Nat) : Int)) _ ?_ (hJ.val (i := 13) (by decide) hS _ rfl)
              clear hJ hw hoff
              go_simp
            · intro S ac wx hJ hS hw hoff
              obtain ⟨_, hwx⟩ := hJ.same (i := 14) (by decide) hS
              subst hwx
              have e97 : ac.eval (.tmp 97) = .int .u8 (b : Int) := hJ.v 7 (by decide) (hw 7 (by kernel_rfl))
              have g97 := evT e97
              have e103 : ac.eval (.tmp 103) = .int .u8 ((1 + x2 : Nat) : Int) := hJ.v 13 (by decide) (hw 13 (by kernel_rfl))
              have g103 := evT e103
              refine Does.value (.int .u8 (xv : Int)) _ ?_ (hJ.val (i := 14) (by decide) hS _ rfl)
              clear hJ hw hoff
              go_simp
            · intro S ac wx hJ hS hw hoff
              obtain ⟨_, hwx⟩ := hJ.same (i := 15) (by decide) hS
              subst hwx
              have e90 : ac.eval (.tmp 90) = .slice (some ⟨g7, 0, none⟩) sb0.size (grownCap y6 sb0.size 0 5) := hJ.v 0 (by decide) (hw 0 (by kernel_rfl))
              have g90 := evT e90
              have e95 : ac.eval (.tmp 95) = .int .i64 (x1 : Int) := hJ.v 5 (by decide) (hw 5 (by kernel_rfl))
              have g95 := evT e95
              refine Does.value (.pointer (some ⟨g7, x1, none⟩)) _ ?_ (hJ.val (i := 15) (by decide) hS _ rfl)
              clear hJ hw hoff
              go_simp
            · intro S ac wx hJ hS hw hoff
              have hwx := hJ.o hS
              subst hwx
              have e105 : ac.eval (.tmp 105) = .pointer (some ⟨g7, x1, none⟩) := hJ.v 15 (by decide) (hw 15 (by kernel_rfl))
              have g105 := evT e105
              have e104 : ac.eval (.tmp 104) = .int .u8 (xv : Int) := hJ.v 14 (by decide) (hw 14 (by kernel_rfl))
              have g104 := evT e104
              have hd : ∀ k, k < 16 → k = 0 ∨ k = 1 ∨ k = 2 ∨ k = 3 ∨ k = 4 ∨ k = 5 ∨ k = 6 ∨ k = 7 ∨ k = 8 ∨ k = 9 ∨ k = 10 ∨ k = 11 ∨ k = 12 ∨ k = 13 ∨ k = 14 ∨ k = 15 := fun k hk => by omega
              have hall : ∀ k, k < 16 → S k = true := fun k hk => by
                rcases hd k hk with rfl | rfl | rfl | rfl | rfl | rfl | rfl | rfl | rfl | rfl | rfl | rfl | rfl | rfl | rfl | rfl
                · exact hw 0 (by kernel_rfl)
                · exact hw 1 (by kernel_rfl)
                · exact hw 2 (by kernel_rfl)
                · exact hw 3 (by kernel_rfl)
                · exact hw 4 (by kernel_rfl)
                · exact hw 5 (by kernel_rfl)
                · exact hw 6 (by kernel_rfl)
                · exact hw 7 (by kernel_rfl)
                · exact hw 8 (by kernel_rfl)
                · exact hw 9 (by kernel_rfl)
                · exact hw 10 (by kernel_rfl)
                · exact hw 11 (by kernel_rfl)
                · exact hw 12 (by kernel_rfl)
                · exact hw 13 (by kernel_rfl)
                · exact hw 14 (by kernel_rfl)
                · exact hw 15 (by kernel_rfl)
              refine Does.skip _ ?_ (hJ.last hall _)
              clear hJ hw hoff hall hd
              go_simp
          · intro ac wx S hdf hsz hoff hall hJ
            obtain ⟨hwx, _⟩ := hJ.t (hall 16 (by decide))
            subst hwx
            have h90 : ac.tmps.getD 90 undef = .slice (some ⟨g7, 0, none⟩) sb0.size (grownCap y6 sb0.size 0 5) := hJ.v 0 (by decide) (hall 0 (by decide))
            have h91 : ac.tmps.getD 91 undef = .pointer (some ⟨w.heap.size, 8, none⟩) := hJ.v 1 (by decide) (hall 1 (by decide))
            have h92 : ac.tmps.getD 92 undef = .int .i64 sp := hJ.v 2 (by decide) (hall 2 (by decide))
            have h93 : ac.tmps.getD 93 undef = .slice (some ⟨g7, 0, none⟩) sb0.size (grownCap y6 sb0.size 0 5) := hJ.v 3 (by decide) (hall 3 (by decide))
            have h94 : ac.tmps.getD 94 undef = .int .i64 (sb0.size : Int) := hJ.v 4 (by decide) (hall 4 (by decide))
            have h95 : ac.tmps.getD 95 undef = .int .i64 (x1 : Int) := hJ.v 5 (by decide) (hall 5 (by decide))
            have h96 : ac.tmps.getD 96 undef = .pointer (some ⟨g7, x1, none⟩) := hJ.v 6 (by decide) (hall 6 (by decide))
            have h97 : ac.tmps.getD 97 undef = .int .u8 (b : Int) := hJ.v 7 (by decide) (hall 7 (by decide))
            have h98 : ac.tmps.getD 98 undef = .pointer (some ⟨w.heap.size, 8, none⟩) := hJ.v 8 (by decide) (hall 8 (by decide))
            have h99 : ac.tmps.getD 99 undef = .int .i64 sp := hJ.v 9 (by decide) (hall 9 (by decide))
            have h100 : ac.tmps.getD 100 undef = .int .i64 u := hJ.v 10 (by decide) (hall 10 (by decide))
            have h101 : ac.tmps.getD 101 undef = .int .i64 (x2 : Int) := hJ.v 11 (by decide) (hall 11 (by decide))
            have h102 : ac.tmps.getD 102 undef = .int .i64 ((1 + x2 : Nat) : Int) := hJ.v 12 (by decide) (hall 12 (by decide))
            have h103 : ac.tmps.getD 103 undef = .int .u8 ((1 + x2 : Nat) : Int) := hJ.v 13 (by decide) (hall 13 (by decide))
            have h104 : ac.tmps.getD 104 undef = .int .u8 (xv : Int) := hJ.v 14 (by decide) (hall 14 (by decide))
            have h105 : ac.tmps.getD 105 undef = .pointer (some ⟨g7, x1, none⟩) := hJ.v 15 (by decide) (hall 15 (by decide))
            have hmix := mix_eq [false, false, false, false, false, false, false, false, false, false, false, false, false, false, false, false, false, false, false, false, false, false, false, false, false, false, false, false, false, false, false, false, false, false, false, false, false, false, false, false, false, false, false, false, false, false, false, false, false, false, false, false, false, false, false, false, false, false, false, false, false, false, false, false, false, false, false, false, false, false, false, false, false, false, false, false, false, false, false, false, false, false, false, false, false, false, false, false, false, false, true, true, true, true, true, true, true, true, true, true, true, true, true, true, true, true, false, false, false, false, false, false, false, false, false] rfl rfl hsz hdf (by kernel_rfl) hoff
            clear hoff hall hsz hdf hJ
            simp only [mixL, Nat.reduceAdd, h90, h91, h92, h93, h94, h95, h96, h97, h98, h99, h100, h101, h102, h103, h104, h105] at hmix
            rw [hmix]
            clear hmix h90 h91 h92 h93 h94 h95 h96 h97 h98 h99 h100 h101 h102 h103 h104 h105 c0 c1 d8 i1 hX hwr hX' hwr' hwr2 eu N1 N2
            obtain ⟨hx1', hz1, hz2, hxl⟩ := unhide HNUM
            obtain ⟨W8, hW8⟩ : ∃ W, W = W7.drew.setCell ⟨g7, x1, none⟩ (.int .u8 (xv : Int)) := ⟨_, rfl⟩
            obtain ⟨L, hL⟩ : ∃ L, L = (sb0.data.toList.map (fun z => (z.toNat : Int))).set x1 (xv : Int) := ⟨_, rfl⟩
            have hLl : L.length = sb0.size := by rw [hL]; simp
            have hc8 : ∀ q, q < sb0.size → W8.cell? ⟨g7, 0 + q, none⟩ = some (.int .u8 (L.getD q 0)) := fun q hq => by
              rw [Nat.zero_add, hW8]
              by_cases e : q = x1
              · subst e
                rw [World.cell?_setCell_same' _ _ _ (by rw [show W7.drew.cell? ⟨g7, q, none⟩ = W7.cell? ⟨g7, q, none⟩ from rfl, unhide HROW q hq]; rfl), hL]
                have : q < (sb0.data.toList.map (fun z => (z.toNat : Int))).length := by simpa using hq
                rw [List.getD_eq_getElem?_getD, List.getElem?_set_self this]
                rfl
              · refine (World.cell?_setCell_other (w := W7.drew) (a := ⟨g7, x1, none⟩) (b := ⟨g7, q, none⟩) (v := .int .u8 (xv : Int)) (by intro he; exact e (by simpa using he.symm))).trans ((unhide HROW q hq).trans ?_)
                have hq' : q < sb0.data.toList.length := by simpa using hq
                rw [hL, List.getD_eq_getElem?_getD, List.getD_eq_getElem?_getD, List.getElem?_set_ne (fun h => e h.symm), List.getElem?_map, List.getElem?_eq_getElem hq']
                rfl
            have hcv2 := run_convert_bytes_arg (P := Tryz.prog) W8 43 5 Tryz.underlying43 Tryz.underlying5 g7 0 sb0.size (grownCap y6 sb0.size 0 5) L hLl hc8 9 Tryz.underlying9
            have hlg := (unhide XB).lt
            have hlo := (unhide XA).lt
            rw [hg7] at hlg hlo
            have ng : gb ≠ g7 := by omega
            have no : ga ≠ g7 := by omega
            have xg8 : At W8 gb #[.string sb0, .string rb] 26 := by rw [hW8]; exact ((unhide XB).below (by rw [hg7]; exact unhide HBX)).other (w := W7) ng
            have xo8 : At W8 ga #[.string sa0, .string ra] 26 := by rw [hW8]; exact ((unhide XA).below (by rw [hg7]; exact unhide HBX)).other (w := W7) no
            have hlw := unhide HLW
            have hb8 : Below W1.heap.size W1 W8 := by
              rw [hW8]
              exact ((unhide K6).trans ((show Below y6.heap.size y6 W7 by rw [hg7]; exact unhide HBX).mono (unhide K6).size)).drew.setCell (p := ⟨g7, x1, none⟩) (by have := (unhide K6).size; rw [hg7] at this; exact this) _
            generalize strOfNums L = s' at *
            rw [← hW8]
            have gs0 := xg8.cell (j := 0) rfl
            have gf0 := xg8.soft (j := 0)
            clear hW8 hL hLl hc8 hlg hlo ng no hx1' hz1 hz2 hxl
            go_upto_region 16 with fail
            obtain ⟨W9, hW9⟩ : ∃ W, W = W8.setCell ⟨gb, 0, none⟩ (.string s') := ⟨_, rfl⟩
            have xG : At W9 gb #[.string s', .string rb] 26 := by rw [hW9]; exact xg8.set (j := 0)
            have xO : At W9 ga #[.string sa0, .string ra] 26 := by rw [hW9]; exact xo8.other nab
            have hbz : Below w.heap.size w W9 := by rw [hW9]; exact ((unhide HB).trans (hb8.mono (unhide HB).size)).setCell (p := ⟨gb, 0, none⟩) hlb _
            have z1 : At W9 (w.heap.size + 1) #[.string ⟨#[]⟩, .string ⟨#[]⟩] 26 := by rw [hW9]; exact (unhide HC W8 hb8).2.1.other m1
            have z2 : At W9 (w.heap.size + 2) #[.string ⟨#[]⟩, .string ⟨#[]⟩] 26 := by rw [hW9]; exact (unhide HC W8 hb8).2.2.1.other m2
            rw [← hW9]
            have xa := xO; have xb := xG
            clear xG xO gs0 gf0 hcv2 hW9 xg8 xo8 hb8 hlw
            have z2' : At W9 (w.heap.size + 1 + 1) #[.string ⟨#[]⟩, .string ⟨#[]⟩] 26 := z2
            have a0 := xa.cell (j := 0) rfl
            have a1 := xa.cell (j := 1) rfl
            have b0 := xb.cell (j := 0) rfl
            have b1 := xb.cell (j := 1) rfl
            have f0 := z1.soft (j := 0)
            have f1 := z1.soft (j := 1)
            have f2 := z2'.soft (j := 0)
            have f3 := z2'.soft (j := 1)
            have e0 := z1.cell (j := 0) rfl
            have e1 := z1.cell (j := 1) rfl
            have e2 := z2'.cell (j := 0) rfl
            have e3 := z2'.cell (j := 1) rfl
            have r1 := (((z1.set (j := 0) (v := .string sa0)).set (j := 1) (v := .string ra)).other (g := w.heap.size + 1 + 1) (j := 0) (v := .string s') n5).other (g := w.heap.size + 1 + 1) (j := 1) (v := .string rb) n5
            have r2 := (((z2'.other (g := w.heap.size + 1) (j := 0) (v := .string sa0) m5).other (g := w.heap.size + 1) (j := 1) (v := .string ra) m5).set (j := 0) (v := .string s')).set (j := 1) (v := .string rb)
            have hF := ((((hbz.setCell (p := ⟨w.heap.size + 1, 0, none⟩) (Nat.le_succ _) (.string sa0)).setCell (p := ⟨w.heap.size + 1, 1, none⟩) (Nat.le_succ _) (.string ra)).setCell (p := ⟨w.heap.size + 1 + 1, 0, none⟩) (Nat.le_add_right _ 2) (.string s')).setCell (p := ⟨w.heap.size + 1 + 1, 1, none⟩) (Nat.le_add_right _ 2) (.string rb)).drew
            have q0 := r1.cell (j := 0) rfl
            have q1 := r1.cell (j := 1) rfl
            have q2 := r2.cell (j := 0) rfl
            have q3 := r2.cell (j := 1) rfl
            have HF := hide hF; have HQ := hide (And.intro q0 (And.intro q1 (And.intro q2 q3)))
            clear hF r1 r2 z1 z2 z2' q0 q1 q2 q3 xa xb hbz
            go_region
            all_goals
              obtain ⟨q0, q1, q2, q3⟩ := unhide HQ
              clear a0 a1 b0 b1 f0 f1 f2 f3 e0 e1 e2 e3 n1 n2 n3 n4 n5 m1 m2 m3 m4 m5
              go_wp2
              exact bodyPost_ret (v := .tuple #[.string mr, .agg #[.string sa0, .string ra], .agg #[.string s', .string rb], .int .i64 0]) (by simp [results, Tryz.results5, go_sem, q0, q1, q2, q3]) rfl ⟨⟨_, _, rfl, fun hz => absurd hz h0⟩, unhide HF⟩
        · have t9 : (v == 0) = false := by simpa using hv0
          obtain ⟨hz1, hz2⟩ := (unhide HS rfl).1
          have xg := unhide XA
          have g0 := xg.cell (j := 0) rfl
          have hcv := Lib.run_convert_string_bytes (P := Tryz.prog) y6 9 43 5 sa0 Tryz.underlying9 Tryz.underlying43 Tryz.underlying5
          go_upto_region 14 with fail
          obtain ⟨W7, hW7⟩ : ∃ W, W = Lib.bytesWorld y6 5 sa0 := ⟨_, rfl⟩
          have hbx : Below y6.heap.size y6 W7 := by
            rw [hW7]
            exact ⟨rfl, rfl, rfl, by rw [Lib.bytesWorld_size]; omega, fun k hk => Lib.bytesWorld_at_old _ _ _ _ hk⟩
          have hrow : ∀ q, q < sa0.size → W7.cell? ⟨y6.heap.size, q, none⟩ = some (.int .u8 (sa0.data.toList.getD q 0).toNat) := by
            intro q hq
            rw [hW7]
            exact Lib.bytesWorld_cell y6 5 sa0 q hq
          have hfrz : ∀ q, q < sa0.size → W7.frozen? ⟨y6.heap.size, q, none⟩ = false := by
            intro q hq
            have h3 := Lib.bytesWorld_at_new y6 5 sa0
            rw [hW7]
            have hc : sa0.size ≤ (Lib.bytesCells y6 5 sa0).size := by simp [Lib.bytesCells]
            simp [World.frozen?, h3]
            omega
          rw [← hW7]
          clear hcv hW7 g0 d8
          have hx1 := chN_lt sp (sa0.size : Int) (by omega)
          have hx2 := chN_lt (Int.tdiv sp 7) 255 (by decide)
          have N1 := hide (fun W => choose_any sp (sa0.size : Int) W hs ⟨by omega, by omega⟩)
          have N2 := hide (fun W => choose_any (Int.tdiv sp 7) 255 W (tdiv7 sp hs) (by decide))
          obtain ⟨u, hu⟩ : ∃ u, Int.tdiv sp 7 = u := ⟨_, rfl⟩
          have hur := tdiv7 sp hs
          rw [hu] at N2 hx2 hur
          have eu : IntKind.i64.wrap u = u := wrap_same u hur
          generalize chN sp (sa0.size : Int) = x1 at *
          generalize chN u 255 = x2 at *
          have hx1' : x1 < sa0.size := by omega
          have c0 := hrow x1 hx1'
          have c1 := hfrz x1 hx1'
          obtain ⟨b, hb⟩ : ∃ b : Nat, b = (sa0.data.toList.getD x1 0).toNat := ⟨_, rfl⟩
          have hb256 : b < 256 := by rw [hb]; exact UInt8.toNat_lt _
          rw [← hb] at c0
          have hX := xor_u8 b (1 + x2) hb256 (by omega)
          have hwr : IntKind.u8.wrap ((1 + x2 : Nat) : Int) = ((1 + x2 : Nat) : Int) := wraps_u8 _ (by omega) (by omega)
          have hwr2 : IntKind.i64.wrap ((1 : Int) + (x2 : Int)) = ((1 + x2 : Nat) : Int) := by rw [show (1 : Int) + (x2 : Int) = ((1 + x2 : Nat) : Int) by omega]; exact wraps_i64 _ (by omega) (by omega)
          have hxl : (b ^^^ (1 + x2)) < 2 ^ 8 := Nat.xor_lt_two_pow (n := 8) (by omega) (by omega)
          generalize b ^^^ (1 + x2) = xv at *
          have hwr' : IntKind.u8.wrap ((1 : Int) + (x2 : Int)) = (1 : Int) + (x2 : Int) := by rw [show (1 : Int) + (x2 : Int) = ((1 + x2 : Nat) : Int) by omega]; exact hwr
          have hX' : bits .xor .u8 (b : Int) ((1 : Int) + (x2 : Int)) = (xv : Int) := by rw [show (1 : Int) + (x2 : Int) = ((1 + x2 : Nat) : Int) by omega]; exact hX
          have d8 := (unhide HCells W7 ((unhide K6).trans (hbx.mono (unhide K6).size))).2.2.2.2.2.2.2.2
          have i1 : (x1 : Int) < (sa0.size : Int) := by omega
          have hn8 : w.heap.size ≠ y6.heap.size := by
            have := unhide HLW
            omega
          have D9 : ∀ vv, (W7.setCell ⟨y6.heap.size, x1, none⟩ vv).cell? ⟨w.heap.size, 8, none⟩ = some (.int .i64 sp) := fun vv =>
            ((unhide HC W7 ((unhide K6).trans (hbx.mono (unhide K6).size))).1.other hn8).cell rfl
          clear hn8
          generalize hg7 : y6.heap.size = g7 at *
          have HBX := hide hbx; have HROW := hide hrow; have HFRZ := hide hfrz; have HNUM := hide (And.intro hx1' (And.intro hz1 (And.intro hz2 hxl))); have XA7 := hide xg
          clear hbx hrow hfrz hx1' hz1 hz2 hx1 hx2 hb hb256 hxl xg hur
          refine wp_drawnJ (by kernel_rfl) 115 (by rfl) (by kernel_rfl) (by kernel_rfl) (SInv 16 (vals [.slice (some ⟨g7, 0, none⟩) sa0.size (grownCap y6 sa0.size 0 5), .pointer (some ⟨w.heap.size, 8, none⟩), .int .i64 sp, .slice (some ⟨g7, 0, none⟩) sa0.size (grownCap y6 sa0.size 0 5), .int .i64 (sa0.size : Int), .int .i64 (x1 : Int), .pointer (some ⟨g7, x1, none⟩), .int .u8 (b : Int), .pointer (some ⟨w.heap.size, 8, none⟩), .int .i64 sp, .int .i64 u, .int .i64 (x2 : Int), .int .i64 ((1 + x2 : Nat) : Int), .int .u8 ((1 + x2 : Nat) : Int), .int .u8 (xv : Int), .pointer (some ⟨g7, x1, none⟩)]) W7.drew (W7.drew.setCell ⟨g7, x1, none⟩ (.int .u8 (xv : Int)))) ?_ ?_ ?_
          · exact ⟨fun _ _ h => absurd h Bool.false_ne_true, fun _ => rfl, fun h => absurd h Bool.false_ne_true⟩
          · refine ⟨?_, ?_, ?_, ?_, ?_, ?_, ?_, ?_, ?_, ?_, ?_, ?_, ?_, ?_, ?_, ?_, ?_, trivial⟩
            · intro S ac wx hJ hS hw hoff
              obtain ⟨_, hwx⟩ := hJ.same (i := 0) (by decide) hS
              subst hwx
              have e20 : ac.eval (.tmp 20) = .slice (some ⟨g7, 0, none⟩) sa0.size (grownCap y6 sa0.size 0 5) := (hoff 20 (by kernel_rfl)).trans rfl
              have g20 := evT e20
              refine Does.value (.slice (some ⟨g7, 0, none⟩) sa0.size (grownCap y6 sa0.size 0 5)) _ ?_ (hJ.val (i := 0) (by decide) hS _ rfl)
              clear hJ hw hoff
              go_simp
            · intro S ac wx hJ hS hw hoff
              obtain ⟨_, hwx⟩ := hJ.same (i := 1) (by decide) hS
              subst hwx
              have e1 : ac.eval (.tmp 1) = .pointer (some ⟨w.heap.size, 0, none⟩) := (hoff 1 (by kernel_rfl)).trans rfl
              have g1 := evT e1
              refine Does.value (.pointer (some ⟨w.heap.size, 8, none⟩)) _ ?_ (hJ.val (i := 1) (by decide) hS _ rfl)
              clear hJ hw hoff
              go_simp
            · intro S ac wx hJ hS hw hoff
              obtain ⟨_, hwx⟩ := hJ.same (i := 2) (by decide) hS
              subst hwx
              have e91 : ac.eval (.tmp 91) = .pointer (some ⟨w.heap.size, 8, none⟩) := hJ.v 1 (by decide) (hw 1 (by kernel_rfl))
              have g91 := evT e91
              refine Does.value (.int .i64 sp) _ ?_ (hJ.val (i := 2) (by decide) hS _ rfl)
              clear hJ hw hoff
              go_simp
            · intro S ac wx hJ hS hw hoff
              obtain ⟨_, hwx⟩ := hJ.same (i := 3) (by decide) hS
              subst hwx
              have e20 : ac.eval (.tmp 20) = .slice (some ⟨g7, 0, none⟩) sa0.size (grownCap y6 sa0.size 0 5) := (hoff 20 (by kernel_rfl)).trans rfl
              have g20 := evT e20
              refine Does.value (.slice (some ⟨g7, 0, none⟩) sa0.size (grownCap y6 sa0.size 0 5)) _ ?_ (hJ.val (i := 3) (by decide) hS _ rfl)
              clear hJ hw hoff
              go_simp
            · intro S ac wx hJ hS hw hoff
              obtain ⟨_, hwx⟩ := hJ.same (i := 4) (by decide) hS
              subst hwx
              have e93 : ac.eval (.tmp 93) = .slice (some ⟨g7, 0, none⟩) sa0.size (grownCap y6 sa0.size 0 5) := hJ.v 3 (by decide) (hw 3 (by kernel_rfl))
              have g93 := evT e93
              refine Does.value (.int .i64 (sa0.size : Int)) _ ?_ (hJ.val (i := 4) (by decide) hS _ rfl)
              clear hJ hw hoff
              go_simp
            · intro S ac wx hJ hS hw hoff
              obtain ⟨_, hwx⟩ := hJ.same (i := 5) (by decide) hS
              subst hwx
              have e92 : ac.eval (.tmp 92) = .int .i64 sp := hJ.v 2 (by decide) (hw 2 (by kernel_rfl))
              have e94 : ac.eval (.tmp 94) = .int .i64 (sa0.size : Int) := hJ.v 4 (by decide) (hw 4 (by kernel_rfl))
              refine does_call2 10 (.tmp 92) (.tmp 94) _ rfl _ _ e92 e94 entChoose (unhide N1 _) ?_
              rintro e wy ⟨rfl, hy⟩
              have hy' := hy.symm
              subst hy'
              exact ⟨_, rfl, hJ.val (i := 5) (by decide) hS _ rfl⟩
            · intro S ac wx hJ hS hw hoff
              obtain ⟨_, hwx⟩ := hJ.same (i := 6) (by decide) hS
              subst hwx
              have e90 : ac.eval (.tmp 90) = .slice (some ⟨g7, 0, none⟩) sa0.size (grownCap y6 sa0.size 0 5) := hJ.v 0 (by decide) (hw 0 (by kernel_rfl))
              have g90 := evT e90
              have e95 : ac.eval (.tmp 95) = .int .i64 (x1 : Int) := hJ.v 5 (by decide) (hw 5 (by kernel_rfl))
              have g95 := evT e95
              refine Does.value (.pointer (some ⟨g7, x1, none⟩)) _ ?_ (hJ.val (i := 6) (by decide) hS _ rfl)
              clear hJ hw hoff
              go_simp
            · intro S ac wx hJ hS hw hoff
              obtain ⟨_, hwx⟩ := hJ.same (i := 7) (by decide) hS
              subst hwx
              have e96 : ac.eval (.tmp 96) = .pointer (some ⟨g7, x1, none⟩) := hJ.v 6 (by decide) (hw 6 (by kernel_rfl))
              have g96 := evT e96
              refine Does.value (.int .u8 (b : Int)) _ ?_ (hJ.val (i := 7) (by decide) hS _ rfl)
              clear hJ hw hoff
              go_simp
            · intro S ac wx hJ hS hw hoff
              obtain ⟨_, hwx⟩ := hJ.same (i := 8) (by decide) hS
              subst hwx
              have e1 : ac.eval (.tmp 1) = .pointer (some ⟨w.heap.size, 0, none⟩) := (hoff 1 (by kernel_rfl)).trans rfl
              have g1 := evT e1
              refine Does.value (.pointer (some ⟨w.heap.size, 8, none⟩)) _ ?_ (hJ.val (i := 8) (by decide) hS _ rfl)
              clear hJ hw hoff
              go_simp
            · intro S ac wx hJ hS hw hoff
              obtain ⟨_, hwx⟩ := hJ.same (i := 9) (by decide) hS
              subst hwx
              have e98 : ac.eval (.tmp 98) = .pointer (some ⟨w.heap.size, 8, none⟩) := hJ.v 8 (by decide) (hw 8 (by kernel_rfl))
              have g98 := evT e98
              refine Does.value (.int .i64 sp) _ ?_ (hJ.val (i := 9) (by decide) hS _ rfl)
              clear hJ hw hoff
              go_simp
            · intro S ac wx hJ hS hw hoff
              obtain ⟨_, hwx⟩ := hJ.same (i := 10) (by decide) hS
              subst hwx
              have e99 : ac.eval (.tmp 99) = .int .i64 sp := hJ.v 9 (by decide) (hw 9 (by kernel_rfl))
              have g99 := evT e99
              refine Does.value (.int .i64 u) _ ?_ (hJ.val (i := 10) (by decide) hS _ rfl)
              clear hJ hw hoff
              go_simp
            · intro S ac wx hJ hS hw hoff
              obtain ⟨_, hwx⟩ := hJ.same (i := 11) (by decide) hS
              subst hwx
              have e100 : ac.eval (.tmp 100) = .int .i64 u := hJ.v 10 (by decide) (hw 10 (by kernel_rfl))
              refine does_call2 10 (.tmp 100) (.const (.int .i64 255)) _ rfl _ _ e100 rfl entChoose (unhide N2 _) ?_
              rintro e wy ⟨rfl, hy⟩
              have hy' := hy.symm
              subst hy'
              exact ⟨_, rfl, hJ.val (i := 11) (by decide) hS _ rfl⟩
            · intro S ac wx hJ hS hw hoff
              obtain ⟨_, hwx⟩ := hJ.same (i := 12) (by decide) hS
              subst hwx
              have e101 : ac.eval (.tmp 101) = .int .i64 (x2 : Int) := hJ.v 11 (by decide) (hw 11 (by kernel_rfl))
              have g101 := evT e101
              refine Does.value (.int .i64 ((1 + x2 : Nat) : Int)) _ ?_ (hJ.val (i := 12) (by decide) hS _ rfl)
              clear hJ hw hoff
              go_simp
            · intro S ac wx hJ hS hw hoff
              obtain ⟨_, hwx⟩ := hJ.same (i := 13) (by decide) hS
              subst hwx
              have e102 : ac.eval (.tmp 102) = .int .i64 ((1 + x2 : Nat) : Int) := hJ.v 12 (by decide) (hw 12 (by kernel_rfl))
              have g102 := evT e102
              refine Does.value (.int .u8 ((1 + x2 : Nat) : Int)) _ ?_ (hJ.val (i := 13) (by decide) hS _ rfl)
              clear hJ hw hoff
              go_simp
            · intro S ac wx hJ hS hw hoff
              obtain ⟨_, hwx⟩ := hJ.same (i := 14) (by decide) hS
              subst hwx
              have e97 : ac.eval (.tmp 97) = .int .u8 (b : Int) := hJ.v 7 (by decide) (hw 7 (by kernel_rfl))
              have g97 := evT e97
              have e103 : ac.eval (.tmp 103) = .int .u8 ((1 + x2 : Nat) : Int) := hJ.v 13 (by decide) (hw 13 (by kernel_rfl))
              have g103 := evT e103
              refine Does.value (.int .u8 (xv : Int)) _ ?_ (hJ.val (i := 14) (by decide) hS _ rfl)
              clear hJ hw hoff
              go_simp
            · intro S ac wx hJ hS hw hoff
              obtain ⟨_, hwx⟩ := hJ.same (i := 15) (by decide) hS
              subst hwx
              have e90 : ac.eval (.tmp 90) = .slice (some ⟨g7, 0, none⟩) sa0.size (grownCap y6 sa0.size 0 5) := hJ.v 0 (by decide) (hw 0 (by kernel_rfl))
              have g90 := evT e90
              have e95 : ac.eval (.tmp 95) = .int .i64 (x1 : Int) := hJ.v 5 (by decide) (hw 5 (by kernel_rfl))
              have g95 := evT e95
              refine Does.value (.pointer (some ⟨g7, x1, none⟩)) _ ?_ (hJ.val (i := 15) (by decide) hS _ rfl)
              clear hJ hw hoff
              go_simp
            · intro S ac wx hJ hS hw hoff
              have hwx := hJ.o hS
              subst hwx
              have e105 : ac.eval (.tmp 105) = .pointer (some ⟨g7, x1, none⟩) := hJ.v 15 (by decide) (hw 15 (by kernel_rfl))
              have g105 := evT e105
              have e104 : ac.eval (.tmp 104) = .int .u8 (xv : Int) := hJ.v 14 (by decide) (hw 14 (by kernel_rfl))
              have g104 := evT e104
              have hd : ∀ k, k < 16 → k = 0 ∨ k = 1 ∨ k = 2 ∨ k = 3 ∨ k = 4 ∨ k = 5 ∨ k = 6 ∨ k = 7 ∨ k = 8 ∨ k = 9 ∨ k = 10 ∨ k = 11 ∨ k = 12 ∨ k = 13 ∨ k = 14 ∨ k = 15 := fun k hk => by omega
              have hall : ∀ k, k < 16 → S k = true := fun k hk => by
                rcases hd k hk with rfl | rfl | rfl | rfl | rfl | rfl | rfl | rfl | rfl | rfl | rfl | rfl | rfl | rfl | rfl | rfl
                · exact hw 0 (by kernel_rfl)
                · exact hw 1 (by kernel_rfl)
                · exact hw 2 (by kernel_rfl)
                · exact hw 3 (by kernel_rfl)
                · exact hw 4 (by kernel_rfl)
                · exact hw 5 (by kernel_rfl)
                · exact hw 6 (by kernel_rfl)
                · exact hw 7 (by kernel_rfl)
                · exact hw 8 (by kernel_rfl)
                · exact hw 9 (by kernel_rfl)
                · exact hw 10 (by kernel_rfl)
                · exact hw 11 (by kernel_rfl)
                · exact hw 12 (by kernel_rfl)
                · exact hw 13 (by kernel_rfl)
                · exact hw 14 (by kernel_rfl)
                · exact hw 15 (by kernel_rfl)
              refine Does.skip _ ?_ (hJ.last hall _)
              clear hJ hw hoff hall hd
              go_simp
          · intro ac wx S hdf hsz hoff hall hJ
            obtain ⟨hwx, _⟩ := hJ.t (hall 16 (by decide))
            subst hwx
            have h90 : ac.tmps.getD 90 undef = .slice (some ⟨g7, 0, none⟩) sa0.size (grownCap y6 sa0.size 0 5) := hJ.v 0 (by decide) (hall 0 (by decide))
            have h91 : ac.tmps.getD 91 undef = .pointer (some ⟨w.heap.size, 8, none⟩) := hJ.v 1 (by decide) (hall 1 (by decide))
            have h92 : ac.tmps.getD 92 undef = .int .i64 sp := hJ.v 2 (by decide) (hall 2 (by decide))
            have h93 : ac.tmps.getD 93 undef = .slice (some ⟨g7, 0, none⟩) sa0.size (grownCap y6 sa0.size 0 5) := hJ.v 3 (by decide) (hall 3 (by decide))
            have h94 : ac.tmps.getD 94 undef = .int .i64 (sa0.size : Int) := hJ.v 4 (by decide) (hall 4 (by decide))
            have h95 : ac.tmps.getD 95 undef = .int .i64 (x1 : Int) := hJ.v 5 (by decide) (hall 5 (by decide))
            have h96 : ac.tmps.getD 96 undef = .pointer (some ⟨g7, x1, none⟩) := hJ.v 6 (by decide) (hall 6 (by decide))
            have h97 : ac.tmps.getD 97 undef = .int .u8 (b : Int) := hJ.v 7 (by decide) (hall 7 (by decide))
            have h98 : ac.tmps.getD 98 undef = .pointer (some ⟨w.heap.size, 8, none⟩) := hJ.v 8 (by decide) (hall 8 (by decide))
            have h99 : ac.tmps.getD 99 undef = .int .i64 sp := hJ.v 9 (by decide) (hall 9 (by decide))
            have h100 : ac.tmps.getD 100 undef = .int .i64 u := hJ.v 10 (by decide) (hall 10 (by decide))
            have h101 : ac.tmps.getD 101 undef = .int .i64 (x2 : Int) := hJ.v 11 (by decide) (hall 11 (by decide))
            have h102 : ac.tmps.getD 102 undef = .int .i64 ((1 + x2 : Nat) : Int) := hJ.v 12 (by decide) (hall 12 (by decide))
            have h103 : ac.tmps.getD 103 undef = .int .u8 ((1 + x2 : Nat) : Int) := hJ.v 13 (by decide) (hall 13 (by decide))
            have h104 : ac.tmps.getD 104 undef = .int .u8 (xv : Int) := hJ.v 14 (by decide) (hall 14 (by decide))
            have h105 : ac.tmps.getD 105 undef = .pointer (some ⟨g7, x1, none⟩) := hJ.v 15 (by decide) (hall 15 (by decide))
            have hmix := mix_eq [false, false, false, false, false, false, false, false, false, false, false, false, false, false, false, false, false, false, false, false, false, false, false, false, false, false, false, false, false, false, false, false, false, false, false, false, false, false, false, false, false, false, false, false, false, false, false, false, false, false, false, false, false, false, false, false, false, false, false, false, false, false, false, false, false, false, false, false, false, false, false, false, false, false, false, false, false, false, false, false, false, false, false, false, false, false, false, false, false, false, true, true, true, true, true, true, true, true, true, true, true, true, true, true, true, true, false, false, false, false, false, false, false, false, false] rfl rfl hsz hdf (by kernel_rfl) hoff
            clear hoff hall hsz hdf hJ
            simp only [mixL, Nat.reduceAdd, h90, h91, h92, h93, h94, h95, h96, h97, h98, h99, h100, h101, h102, h103, h104, h105] at hmix
            rw [hmix]
            clear hmix h90 h91 h92 h93 h94 h95 h96 h97 h98 h99 h100 h101 h102 h103 h104 h105 c0 c1 d8 i1 hX hwr hX' hwr' hwr2 eu N1 N2
            obtain ⟨hx1', hz1, hz2, hxl⟩ := unhide HNUM
            obtain ⟨W8, hW8⟩ : ∃ W, W = W7.drew.setCell ⟨g7, x1, none⟩ (.int .u8 (xv : Int)) := ⟨_, rfl⟩
            obtain ⟨L, hL⟩ : ∃ L, L = (sa0.data.toList.map (fun z => (z.toNat : Int))).set x1 (xv : Int) := ⟨_, rfl⟩
            have hLl : L.length = sa0.size := by rw [hL]; simp
            have hc8 : ∀ q, q < sa0.size → W8.cell? ⟨g7, 0 + q, none⟩ = some (.int .u8 (L.getD q 0)) := fun q hq => by
              rw [Nat.zero_add, hW8]
              by_cases e : q = x1
              · subst e
                rw [World.cell?_setCell_same' _ _ _ (by rw [show W7.drew.cell? ⟨g7, q, none⟩ = W7.cell? ⟨g7, q, none⟩ from rfl, unhide HROW q hq]; rfl), hL]
                have : q < (sa0.data.toList.map (fun z => (z.toNat : Int))).length := by simpa using hq
                rw [List.getD_eq_getElem?_getD, List.getElem?_set_self this]
                rfl
              · refine (World.cell?_setCell_other (w := W7.drew) (a := ⟨g7, x1, none⟩) (b := ⟨g7, q, none⟩) (v := .int .u8 (xv : Int)) (by intro he; exact e (by simpa using he.symm))).trans ((unhide HROW q hq).trans ?_)
                have hq' : q < sa0.data.toList.length := by simpa using hq
                rw [hL, List.getD_eq_getElem?_getD, List.getD_eq_getElem?_getD, List.getElem?_set_ne (fun h => e h.symm), List.getElem?_map, List.getElem?_eq_getElem hq']
                rfl
            have hcv2 := run_convert_bytes_arg (P := Tryz.prog) W8 43 5 Tryz.underlying43 Tryz.underlying5 g7 0 sa0.size (grownCap y6 sa0.size 0 5) L hLl hc8 9 Tryz.underlying9
            have hlg := (unhide XA).lt
            have hlo := (unhide XB).lt
            rw [hg7] at hlg hlo
            have ng : ga ≠ g7 := by omega
            have no : gb ≠ g7 := by omega
            have xg8 : At W8 ga #[.string sa0, .string ra] 26 := by rw [hW8]; exact ((unhide XA).below (by rw [hg7]; exact unhide HBX)).other (w := W7) ng
            have xo8 : At W8 gb #[.string sb0, .string rb] 26 := by rw [hW8]; exact ((unhide XB).below (by rw [hg7]; exact unhide HBX)).other (w := W7) no
            have hlw := unhide HLW
            have hb8 : Below W1.heap.size W1 W8 := by
              rw [hW8]
              exact ((unhide K6).trans ((show Below y6.heap.size y6 W7 by rw [hg7]; exact unhide HBX).mono (unhide K6).size)).drew.setCell (p := ⟨g7, x1, none⟩) (by have := (unhide K6).size; rw [hg7] at this; exact this) _
            generalize strOfNums L = s' at *
            rw [← hW8]
            have gs0 := xg8.cell (j := 0) rfl
            have gf0 := xg8.soft (j := 0)
            clear hW8 hL hLl hc8 hlg hlo ng no hx1' hz1 hz2 hxl
            go_upto_region 16 with fail
            obtain ⟨W9, hW9⟩ : ∃ W, W = W8.setCell ⟨ga, 0, none⟩ (.string s') := ⟨_, rfl⟩
            have xG : At W9 ga #[.string s', .string ra] 26 := by rw [hW9]; exact xg8.set (j := 0)
            have xO : At W9 gb #[.string sb0, .string rb] 26 := by rw [hW9]; exact xo8.other nab.symm
            have hbz : Below w.heap.size w W9 := by rw [hW9]; exact ((unhide HB).trans (hb8.mono (unhide HB).size)).setCell (p := ⟨ga, 0, none⟩) hla' _
            have z1 : At W9 (w.heap.size + 1) #[.string ⟨#[]⟩, .string ⟨#[]⟩] 26 := by rw [hW9]; exact (unhide HC W8 hb8).2.1.other m3
            have z2 : At W9 (w.heap.size + 2) #[.string ⟨#[]⟩, .string ⟨#[]⟩] 26 := by rw [hW9]; exact (unhide HC W8 hb8).2.2.1.other m4
            rw [← hW9]
            have xa := xG; have xb := xO
            clear xG xO gs0 gf0 hcv2 hW9 xg8 xo8 hb8 hlw
            have z2' : At W9 (w.heap.size + 1 + 1) #[.string ⟨#[]⟩, .string ⟨#[]⟩] 26 := z2
            have a0 := xa.cell (j := 0) rfl
            have a1 := xa.cell (j := 1) rfl
            have b0 := xb.cell (j := 0) rfl
            have b1 := xb.cell (j := 1) rfl
            have f0 := z1.soft (j := 0)
            have f1 := z1.soft (j := 1)
            have f2 := z2'.soft (j := 0)
            have f3 := z2'.soft (j := 1)
            have e0 := z1.cell (j := 0) rfl
            have e1 := z1.cell (j := 1) rfl
            have e2 := z2'.cell (j := 0) rfl
            have e3 := z2'.cell (j := 1) rfl
            have r1 := (((z1.set (j := 0) (v := .string s')).set (j := 1) (v := .string ra)).other (g := w.heap.size + 1 + 1) (j := 0) (v := .string sb0) n5).other (g := w.heap.size + 1 + 1) (j := 1) (v := .string rb) n5
            have r2 := (((z2'.other (g := w.heap.size + 1) (j := 0) (v := .string s') m5).other (g := w.heap.size + 1) (j := 1) (v := .string ra) m5).set (j := 0) (v := .string sb0)).set (j := 1) (v := .string rb)
            have hF := ((((hbz.setCell (p := ⟨w.heap.size + 1, 0, none⟩) (Nat.le_succ _) (.string s')).setCell (p := ⟨w.heap.size + 1, 1, none⟩) (Nat.le_succ _) (.string ra)).setCell (p := ⟨w.heap.size + 1 + 1, 0, none⟩) (Nat.le_add_right _ 2) (.string sb0)).setCell (p := ⟨w.heap.size + 1 + 1, 1, none⟩) (Nat.le_add_right _ 2) (.string rb)).drew
            have q0 := r1.cell (j := 0) rfl
            have q1 := r1.cell (j := 1) rfl
            have q2 := r2.cell (j := 0) rfl
            have q3 := r2.cell (j := 1) rfl
            have HF := hide hF; have HQ := hide (And.intro q0 (And.intro q1 (And.intro q2 q3)))
            clear hF r1 r2 z1 z2 z2' q0 q1 q2 q3 xa xb hbz
            go_region
            all_goals
              obtain ⟨q0, q1, q2, q3⟩ := unhide HQ
              clear a0 a1 b0 b1 f0 f1 f2 f3 e0 e1 e2 e3 n1 n2 n3 n4 n5 m1 m2 m3 m4 m5
              go_wp2
              exact bodyPost_ret (v := .tuple #[.string mr, .agg #[.string s', .string ra], .agg #[.string sb0, .string rb], .int .i64 0]) (by simp [results, Tryz.results5, go_sem, q0, q1, q2, q3]) rfl ⟨⟨_, _, rfl, fun hz => absurd hz h0⟩, unhide HF⟩
    case inr =>
      have t1' : (er == 0) = false := by simpa using hne
      have t2' : decide (er = 0) = false := decide_eq_false hne
      go_upto_region 9 with fail
      rw [← unhide HY6] at d8 ⊢
      have hla : w.heap.size + 3 ≤ y4.heap.size ∧ w.heap.size + 3 ≤ y5.heap.size ∧ y4.heap.size < y5.heap.size := unhide HLT
      generalize y5.heap.size = gb at *
      generalize y4.heap.size = ga at *
      have n1 : gb ≠ w.heap.size + 1 := by omega
      have n2 : gb ≠ w.heap.size + 1 + 1 := by omega
      have n3 : ga ≠ w.heap.size + 1 := by omega
      have n4 : ga ≠ w.heap.size + 1 + 1 := by omega
      have n5 : w.heap.size + 1 ≠ w.heap.size + 1 + 1 := by omega
      have m1 := n1.symm
      have m2 := n2.symm
      have m3 := n3.symm
      have m4 := n4.symm
      have m5 := n5.symm
      have nab : ga ≠ gb := by omega
      have hla' : w.heap.size ≤ ga := by omega
      have hlb : w.heap.size ≤ gb := by omega
      have HLW := hide (show w.heap.size + 3 ≤ y6.heap.size from Nat.le_trans hn3 (unhide K6).size)
      clear HY6 hla
      by_cases h0 : sp = 0
      · have HSP : Hid (sp = 0) := hide h0
        go_upto_region 16 with fail
        clear d8
        have xa := unhide XA; have xb := unhide XB; have hbw := unhide K6
        obtain ⟨_, z1, z2, _⟩ := unhide HC _ hbw
        have hbz := (unhide HB).trans (hbw.mono (unhide HB).size)
        clear hbw
        have z2' : At y6 (w.heap.size + 1 + 1) #[.string ⟨#[]⟩, .string ⟨#[]⟩] 26 := z2
        have a0 := xa.cell (j := 0) rfl
        have a1 := xa.cell (j := 1) rfl
        have b0 := xb.cell (j := 0) rfl
        have b1 := xb.cell (j := 1) rfl
        have f0 := z1.soft (j := 0)
        have f1 := z1.soft (j := 1)
        have f2 := z2'.soft (j := 0)
        have f3 := z2'.soft (j := 1)
        have e0 := z1.cell (j := 0) rfl
        have e1 := z1.cell (j := 1) rfl
        have e2 := z2'.cell (j := 0) rfl
        have e3 := z2'.cell (j := 1) rfl
        have r1 := (((z1.set (j := 0) (v := .string sa0)).set (j := 1) (v := .string ra)).other (g := w.heap.size + 1 + 1) (j := 0) (v := .string sb0) n5).other (g := w.heap.size + 1 + 1) (j := 1) (v := .string rb) n5
        have r2 := (((z2'.other (g := w.heap.size + 1) (j := 0) (v := .string sa0) m5).other (g := w.heap.size + 1) (j := 1) (v := .string ra) m5).set (j := 0) (v := .string sb0)).set (j := 1) (v := .string rb)
        have hF := ((((hbz.setCell (p := ⟨w.heap.size + 1, 0, none⟩) (Nat.le_succ _) (.string sa0)).setCell (p := ⟨w.heap.size + 1, 1, none⟩) (Nat.le_succ _) (.string ra)).setCell (p := ⟨w.heap.size + 1 + 1, 0, none⟩) (Nat.le_add_right _ 2) (.string sb0)).setCell (p := ⟨w.heap.size + 1 + 1, 1, none⟩) (Nat.le_add_right _ 2) (.string rb)).drew
        have q0 := r1.cell (j := 0) rfl
        have q1 := r1.cell (j := 1) rfl
        have q2 := r2.cell (j := 0) rfl
        have q3 := r2.cell (j := 1) rfl
        have HF := hide hF; have HQ := hide (And.intro q0 (And.intro q1 (And.intro q2 q3)))
        clear hF r1 r2 z1 z2 z2' q0 q1 q2 q3 xa xb hbz
        go_region
        all_goals
          obtain ⟨q0, q1, q2, q3⟩ := unhide HQ
          clear a0 a1 b0 b1 f0 f1 f2 f3 e0 e1 e2 e3 n1 n2 n3 n4 n5 m1 m2 m3 m4 m5
          go_wp2
          exact bodyPost_ret (v := .tuple #[.string mr, .agg #[.string sa0, .string ra], .agg #[.string sb0, .string rb], .int .i64 er]) (by simp [results, Tryz.results5, go_sem, q0, q1, q2, q3]) rfl ⟨⟨_, _, rfl, fun _ => ⟨rfl, rfl⟩⟩, unhide HF⟩
      · have t0' : (sp != 0) = true := by simpa using h0
        go_upto_region 16 with fail
        clear d8
        have xa := unhide XA; have xb := unhide XB; have hbw := unhide K6
        obtain ⟨_, z1, z2, _⟩ := unhide HC _ hbw
        have hbz := (unhide HB).trans (hbw.mono (unhide HB).size)
        clear hbw
        have z2' : At y6 (w.heap.size + 1 + 1) #[.string ⟨#[]⟩, .string ⟨#[]⟩] 26 := z2
        have a0 := xa.cell (j := 0) rfl
        have a1 := xa.cell (j := 1) rfl
        have b0 := xb.cell (j := 0) rfl
        have b1 := xb.cell (j := 1) rfl
        have f0 := z1.soft (j := 0)
        have f1 := z1.soft (j := 1)
        have f2 := z2'.soft (j := 0)
        have f3 := z2'.soft (j := 1)
        have e0 := z1.cell (j := 0) rfl
        have e1 := z1.cell (j := 1) rfl
        have e2 := z2'.cell (j := 0) rfl
        have e3 := z2'.cell (j := 1) rfl
        have r1 := (((z1.set (j := 0) (v := .string sa0)).set (j := 1) (v := .string ra)).other (g := w.heap.size + 1 + 1) (j := 0) (v := .string sb0) n5).other (g := w.heap.size + 1 + 1) (j := 1) (v := .string rb) n5
        have r2 := (((z2'.other (g := w.heap.size + 1) (j := 0) (v := .string sa0) m5).other (g := w.heap.size + 1) (j := 1) (v := .string ra) m5).set (j := 0) (v := .string sb0)).set (j := 1) (v := .string rb)
        have hF := ((((hbz.setCell (p := ⟨w.heap.size + 1, 0, none⟩) (Nat.le_succ _) (.string sa0)).setCell (p := ⟨w.heap.size + 1, 1, none⟩) (Nat.le_succ _) (.string ra)).setCell (p := ⟨w.heap.size + 1 + 1, 0, none⟩) (Nat.le_add_right _ 2) (.string sb0)).setCell (p := ⟨w.heap.size + 1 + 1, 1, none⟩) (Nat.le_add_right _ 2) (.string rb)).drew
        have q0 := r1.cell (j := 0) rfl
        have q1 := r1.cell (j := 1) rfl
        have q2 := r2.cell (j := 0) rfl
        have q3 := r2.cell (j := 1) rfl
        have HF := hide hF; have HQ := hide (And.intro q0 (And.intro q1 (And.intro q2 q3)))
        clear hF r1 r2 z1 z2 z2' q0 q1 q2 q3 xa xb hbz
        go_region
        all_goals
          obtain ⟨q0, q1, q2, q3⟩ := unhide HQ
          clear a0 a1 b0 b1 f0 f1 f2 f3 e0 e1 e2 e3 n1 n2 n3 n4 n5 m1 m2 m3 m4 m5
          go_wp2
          exact bodyPost_ret (v := .tuple #[.string mr, .agg #[.string sa0, .string ra], .agg #[.string sb0, .string rb], .int .i64 er]) (by simp [results, Tryz.results5, go_sem, q0, q1, q2, q3]) rfl ⟨⟨_, _, rfl, fun _ => ⟨rfl, rfl⟩⟩, unhide HF⟩
end Go.Proofs.YtckkhpegimkefaaGreatDoor
namespace Go.Proofs.YtckkhpegimkefaaGreatDoor
open Go.RowKit
set_option linter.unusedVariables false
set_option linter.unusedSimpArgs false

theorem ba_ext {a b : ByteArray} (h : a.data.toList = b.data.toList) : a = b := ByteArray.ext (Array.toList_inj.1 h)
theorem ext_list (a : ByteArray) (i j : Nat) : (a.extract i j).data.toList = (a.data.toList.take j).drop i := by
  rw [ByteArray.data_extract, Array.toList_extract]
  simp [List.extract_eq_take_drop, List.drop_take]
theorem app_list (a b : ByteArray) : (a ++ b).data.toList = a.data.toList ++ b.data.toList := by rw [ByteArray.data_append, Array.toList_append]
/-- the laid bytes, part by part -/
theorem laidW_list (n : Nat) (k : Int) (t b : ByteArray) : (laidW n k t b).data.toList = (headT k).data.toList ++ ((t.data.toList.take (min t.size (n - 22)) ++ List.replicate (n - 22 - min t.size (n - 22)) 187) ++ ((laidF k t b).data.toList ++ lastT.data.toList)) := by
  unfold laidW
  rw [app_list, app_list, app_list, app_list, laidI_size]
  have h1 : (laidI n t).data.toList = t.data.toList.take (min t.size (n - 22)) := by unfold laidI; rw [ext_list, List.drop_zero]
  have h2 : ∀ j, (manyT 187 j).data.toList = List.replicate j 187 := fun j => by simp [manyT]
  rw [h1, h2]
  simp only [List.append_assoc]
theorem len_size (a : ByteArray) : a.data.toList.length = a.size := by simp
theorem inT_laid (n : Nat) (k : Int) (t b : ByteArray) (hn : 40 ≤ n) : (inT (laidW n k t b)).data.toList = t.data.toList.take (min t.size (n - 22)) ++ List.replicate (n - 22 - min t.size (n - 22)) 187 := by
  unfold inT
  rw [ext_list, laidW_size n k t b (by omega), laidW_list, List.take_append]
  have hh : (headT k).data.toList.length = 2 := by rw [len_size, headT_size]
  have hm : (t.data.toList.take (min t.size (n - 22)) ++ List.replicate (n - 22 - min t.size (n - 22)) (187 : UInt8)).length = n - 22 := by
    rw [List.length_append, List.length_take, List.length_replicate, len_size]; omega
  rw [hh, List.take_of_length_le (by omega), show n - 20 - 2 = n - 22 by omega, List.drop_append, hh, List.drop_of_length_le (by omega), List.nil_append, Nat.sub_self, List.drop_zero, List.take_append, hm, List.take_of_length_le (by omega), Nat.sub_self, List.take_zero, List.append_nil]
/-- the text, from what stands in and what is left -/
theorem text_back (n : Nat) (k : Int) (t b : ByteArray) (hn : 40 ≤ n) : ((inT (laidW n k t b) ++ laidR n t).data.toList).take t.size = t.data.toList := by
  rw [app_list, inT_laid n k t b hn]
  unfold laidR
  rw [ext_list, ← len_size t, List.take_length]
  by_cases h : t.data.toList.length ≤ n - 22
  · rw [Nat.min_eq_left h, List.take_length, List.append_assoc, List.take_append, List.take_length, Nat.sub_self, List.take_zero, List.append_nil]
  · rw [Nat.min_eq_right (by omega), Nat.sub_self, List.replicate_zero, List.append_nil, List.take_append_drop, List.take_length]
theorem body_list (b : ByteArray) : (bodyT b).data.toList = (strOfNums (bigL b.size 2)).data.toList ++ b.data.toList := by unfold bodyT; rw [app_list]
theorem rcN_laid (n : Nat) (k : Int) (body b : ByteArray) (hn : 40 ≤ n) (hb : body.size ≤ 1000) : rcN (laidW n k (bodyT body) b) = body.size := by
  have hs := bodyT_size body
  have hl : ((inT (laidW n k (bodyT body) b)).extract 0 2).data.toList = (strOfNums (bigL body.size 2)).data.toList := by
    rw [ext_list, List.drop_zero, inT_laid n k _ b hn, List.take_append_of_le_length (by rw [List.length_take, len_size]; omega), List.take_take, body_list]
    have h2 : (strOfNums (bigL body.size 2)).data.toList.length = 2 := by rw [len_size, strOfNums_size, bigL_length]
    rw [show min 2 (min (bodyT body).size (n - 22)) = 2 by omega, List.take_append_of_le_length (by omega), List.take_of_length_le (by omega)]
  unfold rcN
  rw [hl, valN_strR]
  exact Nat.mod_eq_of_lt (by omega)
theorem rcBody_laid (n : Nat) (k : Int) (body b : ByteArray) (hn : 40 ≤ n) (hb : body.size ≤ 1000) : rcBody (laidW n k (bodyT body) b) (laidR n (bodyT body)) = body := by
  apply ba_ext
  have ht := text_back n k (bodyT body) b hn
  rw [bodyT_size] at ht
  unfold rcBody
  rw [ext_list, rcN_laid n k body b hn hb, Nat.add_comm 2, ht, body_list, List.drop_append]
  have h2 : (strOfNums (bigL body.size 2)).data.toList.length = 2 := by rw [len_size, strOfNums_size, bigL_length]
  rw [h2, List.drop_of_length_le (by omega), Nat.sub_self, List.drop_zero, List.nil_append]
theorem rcB_laid (n : Nat) (k : Int) (body b : ByteArray) (hn : 40 ≤ n) (hb : body.size ≤ 1000) (k' : Int) (b' : ByteArray) :
    rcB (laidW n k (bodyT body) b) (laidR n (bodyT body)) k' b' = decide (laidW n k' (bodyT body) b' = laidW n k (bodyT body) b) := by
  have hz : rcN (laidW n k (bodyT body) b) ≤ 1000 ∧ rcN (laidW n k (bodyT body) b) + 2 ≤ (inT (laidW n k (bodyT body) b) ++ laidR n (bodyT body)).size := by
    rw [rcN_laid n k body b hn hb]
    refine ⟨hb, ?_⟩
    have ht := congrArg List.length (text_back n k (bodyT body) b hn)
    rw [List.length_take, len_size, len_size, bodyT_size] at ht
    omega
  rw [rc_same hz, rcBody_laid n k body b hn hb, laidW_size n k _ b (by omega)]
  simp
theorem laidW_kind {n : Nat} {k k' : Int} {t b b' : ByteArray} (hk : 1 ≤ k ∧ k ≤ 4) (hk' : 1 ≤ k' ∧ k' ≤ 4) (hne : k' ≠ k) : laidW n k' t b' ≠ laidW n k t b := by
  intro h
  have h1 := congrArg (fun x : ByteArray => x.data.toList.take 2) h
  simp only [laidW_list] at h1
  have hh : ∀ j, (headT j).data.toList.length = 2 := fun j => by rw [len_size, headT_size]
  rw [List.take_append_of_le_length (by rw [hh]; omega), List.take_append_of_le_length (by rw [hh]; omega), List.take_of_length_le (by rw [hh]; omega), List.take_of_length_le (by rw [hh]; omega)] at h1
  obtain ⟨a1, a2⟩ := hk
  obtain ⟨b1, b2⟩ := hk'
  have hc : k = 1 ∨ k = 2 ∨ k = 3 ∨ k = 4 := by omega
  have hc' : k' = 1 ∨ k' = 2 ∨ k' = 3 ∨ k' = 4 := by omega
  rcases hc with rfl | rfl | rfl | rfl <;> rcases hc' with rfl | rfl | rfl | rfl <;> first | exact hne rfl | exact absurd h1 (by decide)
theorem laidW_fold {n : Nat} {k : Int} {t b b' : ByteArray} (h : laidW n k t b' = laidW n k t b) : laidF k t b' = laidF k t b := by
  have h1 := congrArg (fun x : ByteArray => x.data.toList) h
  simp only [laidW_list] at h1
  have h2 := List.append_cancel_left (List.append_cancel_left h1)
  exact ba_ext (List.append_cancel_right h2)
end Go.Proofs.YtckkhpegimkefaaGreatDoor
namespace Go.Proofs.YtckkhpegimkefaaGreatDoor
open Go.RowKit
set_option linter.unusedVariables false
set_option linter.unusedSimpArgs false

theorem cert_bounds {p q : ByteArray} {k : Int} {body beside : ByteArray} (h : certE p q k body beside = 0) : secE p q = 0 ∧ (1 ≤ k ∧ k ≤ 4) ∧ body.size ≤ 1000 ∧ beside.size ≤ 65535 := by
  have hs : secE p q = 0 := by
    by_cases hs : secE p q = 0
    · exact hs
    · have := (cert_secE (k := k) (body := body) (beside := beside) hs).1
      exact absurd (this.symm.trans h) hs
  by_cases hk : 1 ≤ k ∧ k ≤ 4
  · by_cases hl : 1000 < body.size ∨ 65535 < beside.size
    · have := (cert_long hs hk hl).1
      rw [h] at this; cases this
    · exact ⟨hs, hk, by omega, by omega⟩
  · have := (cert_kind (body := body) (beside := beside) hs hk).1
    rw [h] at this; cases this
theorem cert_only (n : Int) {k : Int} {body beside : ByteArray} (hk : 1 ≤ k ∧ k ≤ 4) : certE (prP n) (prQ n) k body beside = 0 ∨ certE (prP n) (prQ n) k body beside = 2 := by
  by_cases hl : 1000 < body.size ∨ 65535 < beside.size
  · exact Or.inr (cert_long (pr_secret n) hk hl).1
  · exact Or.inl (cert_ok (pr_secret n) hk hl).1
theorem rec_made (n : Int) {k : Int} {body beside : ByteArray} (h : certE (prP n) (prQ n) k body beside = 0) (k' : Int) (b' : ByteArray) (hk' : 1 ≤ k' ∧ k' ≤ 4) :
    (laidW (prM n).size k' (bodyT body) b' = laidW (prM n).size k (bodyT body) beside → rcE (prM n) (certS (prP n) (prQ n) k body beside) (certR (prP n) (prQ n) k body beside) k' b' = 0 ∧ rcT (prM n) (certS (prP n) (prQ n) k body beside) (certR (prP n) (prQ n) k body beside) k' b' = body) ∧
    (laidW (prM n).size k' (bodyT body) b' ≠ laidW (prM n).size k (bodyT body) beside → rcE (prM n) (certS (prP n) (prQ n) k body beside) (certR (prP n) (prQ n) k body beside) k' b' = 9 ∧ rcT (prM n) (certS (prP n) (prQ n) k body beside) (certR (prP n) (prQ n) k body beside) k' b' = ⟨#[]⟩) := by
  obtain ⟨hs, hk, hb, _⟩ := cert_bounds h
  obtain ⟨hS, hR⟩ := cert_yes h
  have hp := powE_laid (secE_isMod hs) k (bodyT body) beside
  have hz := secM_size hs
  have hx := (pair_back (chN n 6) (chN6 n) (x := laidW (prM n).size k (bodyT body) beside) hp).1
  have ha := (powT_again hp (secD (prP n) (prQ n))).1
  rw [hS, hR]
  have hrb := rcB_laid (prM n).size k body beside (by exact hz.1) hb k' b'
  have e1 : powE (prM n) (powT (secM (prP n) (prQ n)) (laidW (secM (prP n) (prQ n)).size k (bodyT body) beside) (secD (prP n) (prQ n))) = 0 := ha
  have e2 : powT (prM n) (powT (secM (prP n) (prQ n)) (laidW (secM (prP n) (prQ n)).size k (bodyT body) beside) (secD (prP n) (prQ n))) 3 = laidW (prM n).size k (bodyT body) beside := hx
  refine ⟨fun he => ?_, fun hne => ?_⟩
  · have := rc_true hk' e1 (by rw [e2]; exact hrb.trans (decide_eq_true he))
    rw [e2] at this
    refine ⟨this.1, this.2.trans ?_⟩
    exact rcBody_laid _ k body beside (by exact hz.1) hb
  · exact rc_false hk' e1 (by rw [e2]; exact hrb.trans (decide_eq_false hne))
theorem ck_parts {p q : ByteArray} {k : Int} {o : ByteArray} {t : Int} {m beside : ByteArray} (h : ckE p q k o t m beside = 0) :
    keyE o t m = 0 ∧ certE p q k (keyS o t m) beside = 0 ∧ ckS p q k o t m beside = certS p q k (keyS o t m) beside ∧ ckR p q k o t m beside = certR p q k (keyS o t m) beside := by
  unfold ckE at h
  by_cases hk : keyE o t m = 0
  · rw [if_pos hk] at h
    unfold ckS ckR
    rw [if_pos hk, if_pos hk]
    exact ⟨hk, h, rfl, rfl⟩
  · rw [if_neg hk] at h
    exact absurd h hk
theorem till_pos {o m : ByteArray} {t : Int} (h : keyE o t m = 0) : 0 ≤ t := ((numE_two t).1 (keyE_zero h).2).1
/-- a link that was made -/
theorem link_made (n : Int) {k : Int} {o : ByteArray} {t : Int} {m beside : ByteArray} (h : ckE (prP n) (prQ n) k o t m beside = 0) (may : ByteArray → Bool) :
    (may o = true → lkE (prM n) (ckS (prP n) (prQ n) k o t m beside) (ckR (prP n) (prQ n) k o t m beside) k beside may 0 = 0 ∧ lkM (prM n) (ckS (prP n) (prQ n) k o t m beside) (ckR (prP n) (prQ n) k o t m beside) k beside may 0 = m) ∧
    (may o = false → lkE (prM n) (ckS (prP n) (prQ n) k o t m beside) (ckR (prP n) (prQ n) k o t m beside) k beside may 0 = 10) := by
  obtain ⟨h1, h2, h3, h4⟩ := ck_parts h
  rw [h3, h4]
  obtain ⟨r1, r2⟩ := (rec_made n h2 k beside (cert_bounds h2).2.1).1 rfl
  obtain ⟨k1, k2, k3, k4⟩ := key_back h1
  have ht := till_pos h1
  refine ⟨fun hm => ?_, fun hm => ?_⟩
  · have := lk_ok (may := may) (month := 0) r1 (by rw [r2]; exact k1) (by rw [r2, k2]; exact hm) (by rw [r2, k3]; omega)
    rw [r2, k4] at this
    exact this
  · exact (lk_may (may := may) (month := 0) r1 (by rw [r2]; exact k1) (by rw [r2, k2]; exact hm)).1
theorem chain_made (r i c : Int) {pre id data : ByteArray} {t0 t1 : Int} (ha : ckE (prP r) (prQ r) 1 pre t0 (prM i) ⟨#[]⟩ = 0) (hb : ckE (prP i) (prQ i) 2 id t1 (prM c) data = 0) :
    (mayP id pre = true → chE (prM r) (ckS (prP r) (prQ r) 1 pre t0 (prM i) ⟨#[]⟩) (ckR (prP r) (prQ r) 1 pre t0 (prM i) ⟨#[]⟩) (ckS (prP i) (prQ i) 2 id t1 (prM c) data) (ckR (prP i) (prQ i) 2 id t1 (prM c) data) id data 0 = 0 ∧ chM (prM r) (ckS (prP r) (prQ r) 1 pre t0 (prM i) ⟨#[]⟩) (ckR (prP r) (prQ r) 1 pre t0 (prM i) ⟨#[]⟩) (ckS (prP i) (prQ i) 2 id t1 (prM c) data) (ckR (prP i) (prQ i) 2 id t1 (prM c) data) id data 0 = prM c) ∧
    (mayP id pre = false → chE (prM r) (ckS (prP r) (prQ r) 1 pre t0 (prM i) ⟨#[]⟩) (ckR (prP r) (prQ r) 1 pre t0 (prM i) ⟨#[]⟩) (ckS (prP i) (prQ i) 2 id t1 (prM c) data) (ckR (prP i) (prQ i) 2 id t1 (prM c) data) id data 0 = 10) := by
  have l1 := link_made r ha (mayP id)
  have l2 := (link_made i hb (mayS id)).1 (decide_eq_true rfl)
  refine ⟨fun hm => ?_, fun hm => ?_⟩
  · obtain ⟨a1, a2⟩ := l1.1 hm
    obtain ⟨c1, c2⟩ := ch_two (s2 := ckS (prP i) (prQ i) 2 id t1 (prM c) data) (r2 := ckR (prP i) (prQ i) 2 id t1 (prM c) data) (data := data) a1
    rw [c1, c2, a2]
    exact l2
  · have a1 := l1.2 hm
    exact (ch_one (s2 := ckS (prP i) (prQ i) 2 id t1 (prM c) data) (r2 := ckR (prP i) (prQ i) 2 id t1 (prM c) data) (data := data) (by rw [a1]; decide)).1.trans a1
end Go.Proofs.YtckkhpegimkefaaGreatDoor
