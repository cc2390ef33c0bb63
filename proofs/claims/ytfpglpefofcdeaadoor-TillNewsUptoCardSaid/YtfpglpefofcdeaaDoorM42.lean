/- The reference: Command. -/
import Derived.Test.YtfpglpefofcdeaaDoorM40
import Derived.Test.YtfpglpefofcdeaaDoorM41
namespace Go.Proofs.YtfpglpefofcdeaaDoor
open Go.RowKit
set_option linter.unusedVariables false

/-- texts with their tags, one behind the other -/
def inL : List (Int × ByteArray) → ByteArray
  | [] => ⟨#[]⟩
  | x :: r => itS x.1 x.2 ++ inL r
theorem nil_app (s : ByteArray) : (⟨#[]⟩ : ByteArray) ++ s = s := by apply ByteArray.ext; simp
theorem app_nil (s : ByteArray) : s ++ (⟨#[]⟩ : ByteArray) = s := by apply ByteArray.ext; simp
theorem rest_1 (nm dg : ByteArray) (wn sh tr am : Int) (ca : Bool) (dy bt : Int) (no ex an od : ByteArray) : decide ((⟨0, nm, dg, wn, ⟨sh, tr, am, ca, dy, bt, no⟩, ex, an, od⟩ : XCommand) = zeroC) = decide ((⟨1, nm, dg, wn, ⟨sh, tr, am, ca, dy, bt, no⟩, ex, an, od⟩ : XCommand) = ownC ⟨1, nm, dg, wn, ⟨sh, tr, am, ca, dy, bt, no⟩, ex, an, od⟩) := by
  apply decide_eq_decide.2
  simp [ownC, zeroC, zeroD]
theorem rest_2 (nm dg : ByteArray) (wn sh tr am : Int) (ca : Bool) (dy bt : Int) (no ex an od : ByteArray) : decide ((⟨0, ⟨#[]⟩, dg, wn, ⟨sh, tr, am, ca, dy, bt, no⟩, ex, an, od⟩ : XCommand) = zeroC) = decide ((⟨2, nm, dg, wn, ⟨sh, tr, am, ca, dy, bt, no⟩, ex, an, od⟩ : XCommand) = ownC ⟨2, nm, dg, wn, ⟨sh, tr, am, ca, dy, bt, no⟩, ex, an, od⟩) := by
  apply decide_eq_decide.2
  simp [ownC, zeroC, zeroD]
theorem rest_3 (nm dg : ByteArray) (wn sh tr am : Int) (ca : Bool) (dy bt : Int) (no ex an od : ByteArray) : decide ((⟨0, nm, dg, wn, ⟨sh, tr, am, ca, dy, bt, no⟩, ex, an, od⟩ : XCommand) = zeroC) = decide ((⟨3, nm, dg, wn, ⟨sh, tr, am, ca, dy, bt, no⟩, ex, an, od⟩ : XCommand) = ownC ⟨3, nm, dg, wn, ⟨sh, tr, am, ca, dy, bt, no⟩, ex, an, od⟩) := by
  apply decide_eq_decide.2
  simp [ownC, zeroC, zeroD]
theorem rest_4 (nm dg : ByteArray) (wn sh tr am : Int) (ca : Bool) (dy bt : Int) (no ex an od : ByteArray) : decide ((⟨0, nm, ⟨#[]⟩, wn, ⟨sh, tr, am, ca, dy, bt, no⟩, ex, an, od⟩ : XCommand) = zeroC) = decide ((⟨4, nm, dg, wn, ⟨sh, tr, am, ca, dy, bt, no⟩, ex, an, od⟩ : XCommand) = ownC ⟨4, nm, dg, wn, ⟨sh, tr, am, ca, dy, bt, no⟩, ex, an, od⟩) := by
  apply decide_eq_decide.2
  simp [ownC, zeroC, zeroD]
theorem rest_5 (nm dg : ByteArray) (wn sh tr am : Int) (ca : Bool) (dy bt : Int) (no ex an od : ByteArray) : decide ((⟨0, nm, dg, 0, ⟨0, 0, 0, false, 0, 0, ⟨#[]⟩⟩, ⟨#[]⟩, an, od⟩ : XCommand) = zeroC) = decide ((⟨5, nm, dg, wn, ⟨sh, tr, am, ca, dy, bt, no⟩, ex, an, od⟩ : XCommand) = ownC ⟨5, nm, dg, wn, ⟨sh, tr, am, ca, dy, bt, no⟩, ex, an, od⟩) := by
  apply decide_eq_decide.2
  simp [ownC, zeroC, zeroD]
theorem rest_6 (nm dg : ByteArray) (wn sh tr am : Int) (ca : Bool) (dy bt : Int) (no ex an od : ByteArray) : decide ((⟨0, nm, dg, 0, ⟨sh, tr, am, ca, dy, bt, no⟩, ex, ⟨#[]⟩, od⟩ : XCommand) = zeroC) = decide ((⟨6, nm, dg, wn, ⟨sh, tr, am, ca, dy, bt, no⟩, ex, an, od⟩ : XCommand) = ownC ⟨6, nm, dg, wn, ⟨sh, tr, am, ca, dy, bt, no⟩, ex, an, od⟩) := by
  apply decide_eq_decide.2
  simp [ownC, zeroC, zeroD]
theorem rest_7 (nm dg : ByteArray) (wn sh tr am : Int) (ca : Bool) (dy bt : Int) (no ex an od : ByteArray) : decide ((⟨0, nm, dg, wn, ⟨sh, tr, am, ca, dy, bt, no⟩, ex, an, ⟨#[]⟩⟩ : XCommand) = zeroC) = decide ((⟨7, nm, dg, wn, ⟨sh, tr, am, ca, dy, bt, no⟩, ex, an, od⟩ : XCommand) = ownC ⟨7, nm, dg, wn, ⟨sh, tr, am, ca, dy, bt, no⟩, ex, an, od⟩) := by
  apply decide_eq_decide.2
  simp [ownC, zeroC, zeroD]

/-- tags of one byte that are not made of others -/
def goodT (t : Int) : Prop := madeV t = false ∧ validB t = true ∧ 0 ≤ t ∧ t < 256
def goodL (L : List (Int × ByteArray)) : Prop := ∀ x ∈ L, goodT x.1
theorem good_128 : goodT 128 := ⟨by decide +kernel, by decide +kernel, by decide, by decide⟩
theorem good_129 : goodT 129 := ⟨by decide +kernel, by decide +kernel, by decide, by decide⟩
theorem good_130 : goodT 130 := ⟨by decide +kernel, by decide +kernel, by decide, by decide⟩
theorem good_131 : goodT 131 := ⟨by decide +kernel, by decide +kernel, by decide, by decide⟩
theorem good_132 : goodT 132 := ⟨by decide +kernel, by decide +kernel, by decide, by decide⟩
theorem good_133 : goodT 133 := ⟨by decide +kernel, by decide +kernel, by decide, by decide⟩
theorem good_134 : goodT 134 := ⟨by decide +kernel, by decide +kernel, by decide, by decide⟩
theorem good_135 : goodT 135 := ⟨by decide +kernel, by decide +kernel, by decide, by decide⟩
theorem goodL_nil : goodL [] := fun x hx => by cases hx
theorem goodL_cons {t : Int} {s : ByteArray} {L : List (Int × ByteArray)} (h : goodT t) (hl : goodL L) : goodL ((t, s) :: L) := fun x hx => by
  rcases List.mem_cons.1 hx with rfl | h1
  · exact h
  · exact hl x h1
theorem goodL_cmd (c : XCommand) : goodL (cmdL c) := by
  unfold cmdL
  split
  · exact goodL_cons good_128 (goodL_cons good_129 goodL_nil)
  · split
    · exact goodL_cons good_128 (goodL_cons good_130 goodL_nil)
    · split
      · exact goodL_cons good_128 (goodL_cons good_131 (goodL_cons good_132 (goodL_cons good_133 goodL_nil)))
      · split
        · exact goodL_cons good_128 (goodL_cons good_131 (goodL_cons good_134 goodL_nil))
        · split
          · exact goodL_cons good_128 (goodL_cons good_135 goodL_nil)
          · exact goodL_cons good_128 goodL_nil
theorem tagLen_good {t : Int} (h : goodT t) : tagLen t.toNat = 1 := by
  unfold tagLen
  rw [if_pos (by have := h.2.2; omega)]
theorem fold_leaf : ∀ (L : List (Int × ByteArray)) (s p : Nat), goodL L → p ≤ 1 → ∃ p', (L.map leafI).foldl (stepM (measD 0)) (some (s, p)) = some (s + (inL L).size, p') ∧ p' ≤ 1
  | [], s, p, _, hp => ⟨p, rfl, hp⟩
  | x :: r, s, p, h, hp => by
    have hx := h x (List.mem_cons_self ..)
    obtain ⟨p', e, hp'⟩ := fold_leaf r (s + (itS x.1 x.2).size) (max p 1) (fun y hy => h y (List.mem_cons_of_mem _ hy)) (by omega)
    refine ⟨p', ?_, hp'⟩
    rw [List.map_cons, List.foldl_cons, step_yes]
    have hf : fitsB (leafI x).tag (leafI x).text.size (leafI x).list.length = true := by
      show fitsB x.1 x.2.size 0 = true
      rw [fits_not hx.1, hx.2.1]; rfl
    rw [if_pos hf]
    have e1 : tagLen (leafI x).tag.toNat = 1 := tagLen_good hx
    have e2 : (leafI x).text.size = x.2.size := rfl
    show List.foldl _ (some (s + (tagLen (leafI x).tag.toNat + lenLen (0 + (leafI x).text.size)) + (0 + (leafI x).text.size), max p (1 + 0))) _ = _
    rw [e1, e2]
    have e3 : s + (1 + lenLen (0 + x.2.size)) + (0 + x.2.size) = s + (itS x.1 x.2).size := by
      rw [itS_size, Nat.zero_add]; omega
    rw [e3]
    have e4 : (inL (x :: r)).size = (itS x.1 x.2).size + (inL r).size := by
      show (itS x.1 x.2 ++ inL r).size = _
      exact ByteArray.size_append
    rw [e4, ← Nat.add_assoc]
    exact e
theorem made_161 : madeV 161 = true := by decide +kernel
theorem meas_node (L : List (Int × ByteArray)) (h : goodL L) : ∃ p, measD 2 [nodeI 161 L] = some ((itS 161 (inL L)).size, p) ∧ p ≤ 2 := by
  obtain ⟨p', e, hp⟩ := fold_leaf L 0 0 h (by omega)
  have e1 : measD 1 (nodeI 161 L).list = some ((inL L).size, p') := by
    have : measD 1 (nodeI 161 L).list = (L.map leafI).foldl (stepM (measD 0)) (some (0, 0)) := rfl
    rw [this, e, Nat.zero_add]
  refine ⟨max 0 (1 + p'), ?_, by omega⟩
  show stepM (measD 1) (some (0, 0)) (nodeI 161 L) = _
  rw [step_yes]
  have hf : fitsB (nodeI 161 L).tag (nodeI 161 L).text.size (nodeI 161 L).list.length = true := by
    show fitsB 161 0 _ = true
    rw [fits_made made_161]; rfl
  rw [if_pos hf, e1]
  show some (0 + (tagLen (161 : Int).toNat + lenLen ((inL L).size + 0)) + ((inL L).size + 0), _) = _
  have e2 : tagLen (161 : Int).toNat = 1 := rfl
  rw [e2, itS_size, Nat.add_zero]
  congr 2
  omega
theorem strOf_cons (a : Int) (l : List Int) : strOfNums (a :: l) = strOfNums [a] ++ strOfNums l := by rw [strOfNums_append]; rfl
theorem itemL_it {t : Int} {b : List Int} {s : ByteArray} (h : goodT t ∨ t = 161) (hb : strOfNums b = s) (hs : s.size < 65536) : strOfNums (itemL t.toNat b) = itS t s := by
  have hl : b.length = s.size := by rw [← hb, strOfNums_size]
  have ht : 0 ≤ t ∧ t < 256 := by
    rcases h with h | h
    · exact h.2.2
    · omega
  unfold itemL
  rw [← strOfNums_append, ← strOfNums_append, hb, hl]
  have h1 : tagL t.toNat = [t] := by
    show bigL t.toNat (tagLen t.toNat) = _
    have h2 : tagLen t.toNat = 1 := by unfold tagLen; rw [if_pos (by omega)]
    rw [h2]
    simp [bigL]
    omega
  rw [h1]
  unfold itS szS
  rw [lenR_small hs]
theorem text_leaf : ∀ (L : List (Int × ByteArray)), goodL L → (inL L).size < 65536 → strOfNums (textD 1 (L.map leafI)) = inL L
  | [], _, _ => by simp [textD, inL, strOfNums]
  | x :: r, h, hs => by
    have hx := h x (List.mem_cons_self ..)
    have e4 : (inL (x :: r)).size = (itS x.1 x.2).size + (inL r).size := by
      show (itS x.1 x.2 ++ inL r).size = _
      exact ByteArray.size_append
    have e5 := itS_size x.1 x.2
    have ih := text_leaf r (fun y hy => h y (List.mem_cons_of_mem _ hy)) (by omega)
    have e1 : textD 1 ((x :: r).map leafI) = itemL x.1.toNat (bodyL (textD 0) (leafI x)) ++ textD 1 (r.map leafI) := by simp [textD, leafI, It.tag]
    have e2 : bodyL (textD 0) (leafI x) = strL x.2 := body_not hx.1
    rw [e1, e2, ← strOfNums_append, ih, itemL_it (.inl hx) (strOf_strL x.2) (by omega)]
    rfl
theorem tell_out (L : List (Int × ByteArray)) (h : goodL L) : tellE 161 L 0 = outE 161 (inL L) ∧ tellS 161 L 0 = outS 161 (inL L) := by
  obtain ⟨p, e, hp⟩ := meas_node L h
  have hz := itS_size 161 (inL L)
  have hE : printsE (measD 2 [nodeI 161 L]) = outE 161 (inL L) := by
    rw [e]
    show (if 8 < p ∨ 65535 < (itS 161 (inL L)).size then (2 : Int) else 0) = _
    unfold outE
    by_cases hc : 65535 < (itS 161 (inL L)).size
    · rw [if_pos (.inr hc), if_pos hc]
    · rw [if_neg (by omega), if_neg hc]
  constructor
  · unfold tellE; rw [if_pos rfl, hE]
  · unfold tellS printsS
    rw [if_pos rfl, hE]
    unfold outE outS
    by_cases hc : 65535 < (itS 161 (inL L)).size
    · rw [if_pos hc, if_pos hc, if_neg (by decide)]
    · rw [if_neg hc, if_neg hc, if_pos rfl]
      have e1 : textD 2 [nodeI 161 L] = itemL 161 (bodyL (textD 1) (nodeI 161 L)) := by simp [textD, nodeI, It.tag]
      have e2 : bodyL (textD 1) (nodeI 161 L) = textD 1 (L.map leafI) := body_made made_161
      rw [e1, e2]
      exact itemL_it (t := 161) (.inr rfl) (text_leaf L h (by omega)) (by omega)
theorem tell_wrong {L : List (Int × ByteArray)} {er : Int} (h : er ≠ 0) : tellE 161 L er = er ∧ tellS 161 L er = ⟨#[]⟩ := by
  unfold tellE tellS
  rw [if_neg h, if_neg h]
  exact ⟨rfl, rfl⟩
theorem inL_ge {L : List (Int × ByteArray)} {x : Int × ByteArray} (h : x ∈ L) : x.2.size ≤ (inL L).size := by
  induction L with
  | nil => cases h
  | cons y r ih =>
    have e4 : (inL (y :: r)).size = (itS y.1 y.2).size + (inL r).size := by
      show (itS y.1 y.2 ++ inL r).size = _
      exact ByteArray.size_append
    rcases List.mem_cons.1 h with rfl | h1
    · have := itS_size x.1 x.2; omega
    · have := ih h1; omega
theorem tell_long {L : List (Int × ByteArray)} (h : goodL L) {x : Int × ByteArray} (hx : x ∈ L) (hs : 65535 < x.2.size) : tellE 161 L 0 = 2 ∧ tellS 161 L 0 = ⟨#[]⟩ := by
  obtain ⟨a, b⟩ := tell_out L h
  have h1 := inL_ge hx
  have h2 := itS_size 161 (inL L)
  rw [a, b]
  unfold outE outS
  rw [if_pos (by omega), if_pos (by omega)]
  exact ⟨rfl, rfl⟩
theorem num_one {n : Int} (h : 0 ≤ n ∧ n ≤ 255) : numS n 1 = strOfNums [n] ∧ numE n 1 = 0 := by
  obtain ⟨k, rfl⟩ := Int.eq_ofNat_of_zero_le h.1
  have hk : numOk (k : Int) 1 := (numOk_nat k 1 (by decide) (by decide)).2 (by omega)
  refine ⟨?_, numE_yes hk⟩
  rw [numS_yes hk]
  congr 1
  simp [bigL]
  omega
theorem num_far {n : Int} (h : ¬ (0 ≤ n ∧ n ≤ 255)) : numE n 1 = 3 := numE_no (fun hk => h (by
  unfold numOk at hk
  have e : (256 : Int) ^ Int.toNat 1 = 256 := by decide
  rw [e] at hk
  omega))
end Go.Proofs.YtfpglpefofcdeaaDoor
