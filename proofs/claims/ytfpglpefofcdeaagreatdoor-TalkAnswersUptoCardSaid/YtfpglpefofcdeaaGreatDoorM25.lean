/- The reference: DealText. -/
import Derived.Test.YtfpglpefofcdeaaGreatDoorM24
import Derived.Test.YtfpglpefofcdeaaGreatDoorM19
import Derived.Test.YtfpglpefofcdeaaGreatDoorM22
namespace Go.Proofs.YtfpglpefofcdeaaGreatDoor
open Go.RowKit
set_option linter.unusedVariables false

theorem big2_two (n : Nat) : strOfNums (bigL n 2) = twoT n := by
  unfold twoT
  congr 1
  simp only [bigL, Nat.pow_one, Nat.pow_zero, Nat.div_one, lowByte]
  congr 1 <;> (try congr 1) <;> omega
theorem big_num (n k : Nat) (h1 : 1 ≤ k) (h8 : k ≤ 8) (h : n < 256 ^ k) : strOfNums (bigL n k) = numS (n : Int) (k : Int) := by
  rw [numS_yes ((numOk_nat n k h1 h8).2 h)]
  simp
theorem ext_drewT {W x : World} (h : Below W.heap.size W x) : Below W.heap.size W x.drew := h.drew
end Go.Proofs.YtfpglpefofcdeaaGreatDoor
namespace Go.Proofs.YtfpglpefofcdeaaGreatDoor
open Go.RowKit
set_option linter.unusedVariables false

/-- texts with their tags, one behind the other -/
def inL : List (Int × ByteArray) → ByteArray
  | [] => ⟨#[]⟩
  | x :: r => itS x.1 x.2 ++ inL r
theorem nil_app (s : ByteArray) : (⟨#[]⟩ : ByteArray) ++ s = s := by apply ByteArray.ext; simp
theorem app_nil (s : ByteArray) : s ++ (⟨#[]⟩ : ByteArray) = s := by apply ByteArray.ext; simp
theorem rest_1 (nm dg : ByteArray) (wn sh tr am : Int) (ca : Bool) (dy bt : Int) (no ex an od : ByteArray) : decide ((⟨0, nm, dg, wn, ⟨sh, tr, am, ca, dy, bt, no⟩, ex, an, od⟩ : XCommand) = zeroC) = decide ((⟨1, nm, dg, wn, ⟨sh, tr, am, ca, dy, bt, no⟩, ex, an, od⟩ : XCommand) = ownC ⟨1, nm, dg, wn, ⟨sh, tr, am, ca, dy, bt, no⟩, ex, an, od⟩) := by
  apply decide_eq_decide.2
  simp [ownC, zeroC, zeroD]
theorem rest_2 (nm dg : ByteArray) (wn sh tr am : Int) (ca : Bool) (dy bt : Int) (no ex an od : ByteArray) : decide ((⟨0, ⟨#[]⟩, dg, wn, ⟨sh, tr, am, ca, dy, bt, no⟩, ex, an, od⟩ : XCommand) = zeroC) = decide ((⟨2, nm, dg, wn, ⟨sh, tr, am, ca, dy, bt, no⟩, ex, an, od⟩ : XCommand) = ownC ⟨2, nm, dg, wn, ⟨sh, tr, am, ca, dy, bt, no⟩, ex, an, od⟩) := by
  apply decide_eq_decide.2
  simp [ownC, zeroC, zeroD]
theorem rest_3 (nm dg : ByteArray) (wn sh tr am : Int) (ca : Bool) (dy bt : Int) (no ex an od : ByteArray) : decide ((⟨0, nm, dg, wn, ⟨sh, tr, am, ca, dy, bt, no⟩, ex, an, od⟩ : XCommand) = zeroC) = decide ((⟨3, nm, dg, wn, ⟨sh, tr, am, ca, dy, bt, no⟩, ex, an, od⟩ : XCommand) = ownC ⟨3, nm, dg, wn, ⟨sh, tr, am, ca, dy, bt, no⟩, ex, an, od⟩) := by
  apply decide_eq_decide.2
  simp [ownC, zeroC, zeroD]
theorem rest_4 (nm dg : ByteArray) (wn sh tr am : Int) (ca : Bool) (dy bt : Int) (no ex an od : ByteArray) : decide ((⟨0, nm, ⟨#[]⟩, wn, ⟨sh, tr, am, ca, dy, bt, no⟩, ex, an, od⟩ : XCommand) = zeroC) = decide ((⟨4, nm, dg, wn, ⟨sh, tr, am, ca, dy, bt, no⟩, ex, an, od⟩ : XCommand) = ownC ⟨4, nm, dg, wn, ⟨sh, tr, am, ca, dy, bt, no⟩, ex, an, od⟩) := by
  apply decide_eq_decide.2
  simp [ownC, zeroC, zeroD]
theorem rest_5 (nm dg : ByteArray) (wn sh tr am : Int) (ca : Bool) (dy bt : Int) (no ex an od : ByteArray) : decide ((⟨0, nm, dg, 0, ⟨0, 0, 0, false, 0, 0, ⟨#[]⟩⟩, ⟨#[]⟩, an, od⟩ : XCommand) = zeroC) = decide ((⟨5, nm, dg, wn, ⟨sh, tr, am, ca, dy, bt, no⟩, ex, an, od⟩ : XCommand) = ownC ⟨5, nm, dg, wn, ⟨sh, tr, am, ca, dy, bt, no⟩, ex, an, od⟩) := by
  apply decide_eq_decide.2
  simp [ownC, zeroC, zeroD]
theorem rest_6 (nm dg : ByteArray) (wn sh tr am : Int) (ca : Bool) (dy bt : Int) (no ex an od : ByteArray) : decide ((⟨0, nm, dg, 0, ⟨sh, tr, am, ca, dy, bt, no⟩, ex, ⟨#[]⟩, od⟩ : XCommand) = zeroC) = decide ((⟨6, nm, dg, wn, ⟨sh, tr, am, ca, dy, bt, no⟩, ex, an, od⟩ : XCommand) = ownC ⟨6, nm, dg, wn, ⟨sh, tr, am, ca, dy, bt, no⟩, ex, an, od⟩) := by
  apply decide_eq_decide.2
  simp [ownC, zeroC, zeroD]
theorem rest_7 (nm dg : ByteArray) (wn sh tr am : Int) (ca : Bool) (dy bt : Int) (no ex an od : ByteArray) : decide ((⟨0, nm, dg, wn, ⟨sh, tr, am, ca, dy, bt, no⟩, ex, an, ⟨#[]⟩⟩ : XCommand) = zeroC) = decide ((⟨7, nm, dg, wn, ⟨sh, tr, am, ca, dy, bt, no⟩, ex, an, od⟩ : XCommand) = ownC ⟨7, nm, dg, wn, ⟨sh, tr, am, ca, dy, bt, no⟩, ex, an, od⟩) := by
  apply decide_eq_decide.2
  simp [ownC, zeroC, zeroD]

/-- tags of one byte that are not made of others -/
def goodT (t : Int) : Prop := madeV t = false ∧ validB t = true ∧ 0 ≤ t ∧ t < 256
def goodL (L : List (Int × ByteArray)) : Prop := ∀ x ∈ L, goodT x.1
theorem good_128 : goodT 128 := ⟨by decide +kernel, by decide +kernel, by decide, by decide⟩
theorem good_129 : goodT 129 := ⟨by decide +kernel, by decide +kernel, by decide, by decide⟩
theorem good_130 : goodT 130 := ⟨by decide +kernel, by decide +kernel, by decide, by decide⟩
theorem good_131 : goodT 131 := ⟨by decide +kernel, by decide +kernel, by decide, by decide⟩
theorem good_132 : goodT 132 := ⟨by decide +kernel, by decide +kernel, by decide, by decide⟩
theorem good_133 : goodT 133 := ⟨by decide +kernel, by decide +kernel, by decide, by decide⟩
theorem good_134 : goodT 134 := ⟨by decide +kernel, by decide +kernel, by decide, by decide⟩
theorem good_135 : goodT 135 := ⟨by decide +kernel, by decide +kernel, by decide, by decide⟩
theorem goodL_nil : goodL [] := fun x hx => by cases hx
theorem goodL_cons {t : Int} {s : ByteArray} {L : List (Int × ByteArray)} (h : goodT t) (hl : goodL L) : goodL ((t, s) :: L) := fun x hx => by
  rcases List.mem_cons.1 hx with rfl | h1
  · exact h
  · exact hl x h1
theorem goodL_cmd (c : XCommand) : goodL (cmdL c) := by
  unfold cmdL
  split
  · exact goodL_cons good_128 (goodL_cons good_129 goodL_nil)
  · split
    · exact goodL_cons good_128 (goodL_cons good_130 goodL_nil)
    · split
      · exact goodL_cons good_128 (goodL_cons good_131 (goodL_cons good_132 (goodL_cons good_133 goodL_nil)))
      · split
        · exact goodL_cons good_128 (goodL_cons good_131 (goodL_cons good_134 goodL_nil))
        · split
          · exact goodL_cons good_128 (goodL_cons good_135 goodL_nil)
          · exact goodL_cons good_128 goodL_nil
theorem tagLen_good {t : Int} (h : goodT t) : tagLen t.toNat = 1 := by
  unfold tagLen
  rw [if_pos (by have := h.2.2; omega)]
theorem fold_leaf : ∀ (L : List (Int × ByteArray)) (s p : Nat), goodL L → p ≤ 1 → ∃ p', (L.map leafI).foldl (stepM (measD 0)) (some (s, p)) = some (s + (inL L).size, p') ∧ p' ≤ 1
  | [], s, p, _, hp => ⟨p, rfl, hp⟩
  | x :: r, s, p, h, hp => by
    have hx := h x (List.mem_cons_self ..)
    obtain ⟨p', e, hp'⟩ := fold_leaf r (s + (itS x.1 x.2).size) (max p 1) (fun y hy => h y (List.mem_cons_of_mem _ hy)) (by omega)
    refine ⟨p', ?_, hp'⟩
    rw [List.map_cons, List.foldl_cons, step_yes]
    have hf : fitsB (leafI x).tag (leafI x).text.size (leafI x).list.length = true := by
      show fitsB x.1 x.2.size 0 = true
      rw [fits_not hx.1, hx.2.1]; rfl
    rw [if_pos hf]
    have e1 : tagLen (leafI x).tag.toNat = 1 := tagLen_good hx
    have e2 : (leafI x).text.size = x.2.size := rfl
    show List.foldl _ (some (s + (tagLen (leafI x).tag.toNat + lenLen (0 + (leafI x).text.size)) + (0 + (leafI x).text.size), max p (1 + 0))) _ = _
    rw [e1, e2]
    have e3 : s + (1 + lenLen (0 + x.2.size)) + (0 + x.2.size) = s + (itS x.1 x.2).size := by
      rw [itS_size, Nat.zero_add]; omega
    rw [e3]
    have e4 : (inL (x :: r)).size = (itS x.1 x.2).size + (inL r).size := by
      show (itS x.1 x.2 ++ inL r).size = _
      exact ByteArray.size_append
    rw [e4, ← Nat.add_assoc]
    exact e
theorem made_161 : madeV 161 = true := by decide +kernel
theorem meas_node (L : List (Int × ByteArray)) (h : goodL L) : ∃ p, measD 2 [nodeI 161 L] = some ((itS 161 (inL L)).size, p) ∧ p ≤ 2 := by
  obtain ⟨p', e, hp⟩ := fold_leaf L 0 0 h (by omega)
  have e1 : measD 1 (nodeI 161 L).list = some ((inL L).size, p') := by
    have : measD 1 (nodeI 161 L).list = (L.map leafI).foldl (stepM (measD 0)) (some (0, 0)) := rfl
    rw [this, e, Nat.zero_add]
  refine ⟨max 0 (1 + p'), ?_, by omega⟩
  show stepM (measD 1) (some (0, 0)) (nodeI 161 L) = _
  rw [step_yes]
  have hf : fitsB (nodeI 161 L).tag (nodeI 161 L).text.size (nodeI 161 L).list.length = true := by
    show fitsB 161 0 _ = true
    rw [fits_made made_161]; rfl
  rw [if_pos hf, e1]
  show some (0 + (tagLen (161 : Int).toNat + lenLen ((inL L).size + 0)) + ((inL L).size + 0), _) = _
  have e2 : tagLen (161 : Int).toNat = 1 := rfl
  rw [e2, itS_size, Nat.add_zero]
  congr 2
  omega
theorem strOf_cons (a : Int) (l : List Int) : strOfNums (a :: l) = strOfNums [a] ++ strOfNums l := by rw [strOfNums_append]; rfl
theorem itemL_it {t : Int} {b : List Int} {s : ByteArray} (h : goodT t ∨ t = 161) (hb : strOfNums b = s) (hs : s.size < 65536) : strOfNums (itemL t.toNat b) = itS t s := by
  have hl : b.length = s.size := by rw [← hb, strOfNums_size]
  have ht : 0 ≤ t ∧ t < 256 := by
    rcases h with h | h
    · exact h.2.2
    · omega
  unfold itemL
  rw [← strOfNums_append, ← strOfNums_append, hb, hl]
  have h1 : tagL t.toNat = [t] := by
    show bigL t.toNat (tagLen t.toNat) = _
    have h2 : tagLen t.toNat = 1 := by unfold tagLen; rw [if_pos (by omega)]
    rw [h2]
    simp [bigL]
    omega
  rw [h1]
  unfold itS szS
  rw [lenR_small hs]
theorem text_leaf : ∀ (L : List (Int × ByteArray)), goodL L → (inL L).size < 65536 → strOfNums (textD 1 (L.map leafI)) = inL L
  | [], _, _ => by simp [textD, inL, strOfNums]
  | x :: r, h, hs => by
    have hx := h x (List.mem_cons_self ..)
    have e4 : (inL (x :: r)).size = (itS x.1 x.2).size + (inL r).size := by
      show (itS x.1 x.2 ++ inL r).size = _
      exact ByteArray.size_append
    have e5 := itS_size x.1 x.2
    have ih := text_leaf r (fun y hy => h y (List.mem_cons_of_mem _ hy)) (by omega)
    have e1 : textD 1 ((x :: r).map leafI) = itemL x.1.toNat (bodyL (textD 0) (leafI x)) ++ textD 1 (r.map leafI) := by simp [textD, leafI, It.tag]
    have e2 : bodyL (textD 0) (leafI x) = strL x.2 := body_not hx.1
    rw [e1, e2, ← strOfNums_append, ih, itemL_it (.inl hx) (strOf_strL x.2) (by omega)]
    rfl
theorem tell_out (L : List (Int × ByteArray)) (h : goodL L) : tellE 161 L 0 = outE 161 (inL L) ∧ tellS 161 L 0 = outS 161 (inL L) := by
  obtain ⟨p, e, hp⟩ := meas_node L h
  have hz := itS_size 161 (inL L)
  have hE : printsE (measD 2 [nodeI 161 L]) = outE 161 (inL L) := by
    rw [e]
    show (if 8 < p ∨ 65535 < (itS 161 (inL L)).size then (2 : Int) else 0) = _
    unfold outE
    by_cases hc : 65535 < (itS 161 (inL L)).size
    · rw [if_pos (.inr hc), if_pos hc]
    · rw [if_neg (by omega), if_neg hc]
  constructor
  · unfold tellE; rw [if_pos rfl, hE]
  · unfold tellS printsS
    rw [if_pos rfl, hE]
    unfold outE outS
    by_cases hc : 65535 < (itS 161 (inL L)).size
    · rw [if_pos hc, if_pos hc, if_neg (by decide)]
    · rw [if_neg hc, if_neg hc, if_pos rfl]
      have e1 : textD 2 [nodeI 161 L] = itemL 161 (bodyL (textD 1) (nodeI 161 L)) := by simp [textD, nodeI, It.tag]
      have e2 : bodyL (textD 1) (nodeI 161 L) = textD 1 (L.map leafI) := body_made made_161
      rw [e1, e2]
      exact itemL_it (t := 161) (.inr rfl) (text_leaf L h (by omega)) (by omega)
theorem tell_wrong {L : List (Int × ByteArray)} {er : Int} (h : er ≠ 0) : tellE 161 L er = er ∧ tellS 161 L er = ⟨#[]⟩ := by
  unfold tellE tellS
  rw [if_neg h, if_neg h]
  exact ⟨rfl, rfl⟩
theorem inL_ge {L : List (Int × ByteArray)} {x : Int × ByteArray} (h : x ∈ L) : x.2.size ≤ (inL L).size := by
  induction L with
  | nil => cases h
  | cons y r ih =>
    have e4 : (inL (y :: r)).size = (itS y.1 y.2).size + (inL r).size := by
      show (itS y.1 y.2 ++ inL r).size = _
      exact ByteArray.size_append
    rcases List.mem_cons.1 h with rfl | h1
    · have := itS_size x.1 x.2; omega
    · have := ih h1; omega
theorem tell_long {L : List (Int × ByteArray)} (h : goodL L) {x : Int × ByteArray} (hx : x ∈ L) (hs : 65535 < x.2.size) : tellE 161 L 0 = 2 ∧ tellS 161 L 0 = ⟨#[]⟩ := by
  obtain ⟨a, b⟩ := tell_out L h
  have h1 := inL_ge hx
  have h2 := itS_size 161 (inL L)
  rw [a, b]
  unfold outE outS
  rw [if_pos (by omega), if_pos (by omega)]
  exact ⟨rfl, rfl⟩
theorem num_one {n : Int} (h : 0 ≤ n ∧ n ≤ 255) : numS n 1 = strOfNums [n] ∧ numE n 1 = 0 := by
  obtain ⟨k, rfl⟩ := Int.eq_ofNat_of_zero_le h.1
  have hk : numOk (k : Int) 1 := (numOk_nat k 1 (by decide) (by decide)).2 (by omega)
  refine ⟨?_, numE_yes hk⟩
  rw [numS_yes hk]
  congr 1
  simp [bigL]
  omega
theorem num_far {n : Int} (h : ¬ (0 ≤ n ∧ n ≤ 255)) : numE n 1 = 3 := numE_no (fun hk => h (by
  unfold numOk at hk
  have e : (256 : Int) ^ Int.toNat 1 = 256 := by decide
  rw [e] at hk
  omega))
end Go.Proofs.YtfpglpefofcdeaaGreatDoor
namespace Go.Proofs.YtfpglpefofcdeaaGreatDoor
open Go.RowKit
set_option linter.unusedVariables false

/-- the text of a tag among texts -/
def lookO (n : Int) : List (Int × ByteArray) → Option ByteArray
  | [] => none
  | x :: r => if x.1 = n then some x.2 else lookO n r
theorem find_leaves (n : Int) (d : Nat) : ∀ (L : List (Int × ByteArray)), goodL L → findD n (d + 1) (L.map leafI) = lookO n L
  | [], _ => rfl
  | x :: r, h => by
    have hx := h x (List.mem_cons_self ..)
    have ih := find_leaves n d r (fun y hy => h y (List.mem_cons_of_mem _ hy))
    rw [List.map_cons]
    show findD n (d + 1) (.mk x.1 x.2 [] :: r.map leafI) = _
    rw [find_leaf hx.1, ih]
    rfl
theorem got_node (n : Int) (L : List (Int × ByteArray)) (h : goodL L) : gotT n 8 [nodeI 161 L] = (lookO n L).getD ⟨#[]⟩ := by
  have e : findD n 8 [nodeI 161 L] = findD n 7 (L.map leafI) := by
    show List.findSome? (stepF n (findD n 7)) [nodeI 161 L] = _
    have e1 : stepF n (findD n 7) (nodeI 161 L) = findD n 7 (L.map leafI) := by
      unfold stepF
      rw [show (nodeI 161 L).tag = 161 from rfl, made_161, if_pos rfl]
      rfl
    rw [List.findSome?_cons, e1]
    cases findD n 7 (L.map leafI) <;> rfl
  unfold gotT
  rw [e, find_leaves n 6 L h]
theorem has_leaves (n : Int) : ∀ (L : List (Int × ByteArray)), (L.map leafI).findSome? (hasI n) = lookO n L
  | [] => rfl
  | x :: r => by
    have ih := has_leaves n r
    have e : hasI n (leafI x) = if x.1 = n then some x.2 else none := rfl
    have e2 : lookO n (x :: r) = if x.1 = n then some x.2 else lookO n r := rfl
    rw [List.map_cons, List.findSome?_cons, ih, e, e2]
    by_cases h : x.1 = n
    · rw [if_pos h, if_pos h]
    · rw [if_neg h, if_neg h]
theorem get_node (n : Int) (L : List (Int × ByteArray)) : getR n [nodeI 161 L] = (lookO n L).getD ⟨#[]⟩ := by
  show (if (nodeI 161 L).tag = 161 then ((nodeI 161 L).list.findSome? (hasI n)).getD ⟨#[]⟩ else ⟨#[]⟩) = _
  rw [if_pos (show (nodeI 161 L).tag = 161 from rfl)]
  show ((L.map leafI).findSome? (hasI n)).getD ⟨#[]⟩ = _
  rw [has_leaves]
theorem node_deep (t : Int) (L : List (Int × ByteArray)) : Deep 2 [nodeI t L] := by
  intro x hx
  obtain rfl : x = nodeI t L := by simpa using hx
  intro y hy
  obtain ⟨z, _, rfl⟩ := List.mem_map.1 (show y ∈ L.map leafI from hy)
  rfl
theorem cmd_parts {c : XCommand} (h : commandE c = 0) : (1 ≤ c.dO ∧ c.dO ≤ 7) ∧ c = ownC c ∧ cmdW c = 0 ∧ parsesE (commandS c) = 0 ∧ parsesL (commandS c) = [nodeI 161 (cmdL c)] := by
  unfold commandE at h
  cases h1 : inT c.dO 1 7 with
  | false => rw [h1] at h; cases h
  | true =>
  cases h2 : decide (c = ownC c) with
  | false => rw [h1, h2] at h; cases h
  | true =>
    rw [h1, h2] at h
    have h3 : tellE 161 (cmdL c) (cmdW c) = 0 := h
    have hS : commandS c = tellS 161 (cmdL c) (cmdW c) := by unfold commandS; rw [h1, h2]; rfl
    by_cases h4 : cmdW c = 0
    · unfold tellE at h3
      rw [if_pos h4] at h3
      obtain ⟨a, b⟩ := printed_parses (node_deep 161 (cmdL c)) h3
      have e : tellS 161 (cmdL c) (cmdW c) = printsS 2 [nodeI 161 (cmdL c)] := by unfold tellS; rw [if_pos h4]
      rw [hS, e]
      exact ⟨inT_true.1 h1, of_decide_eq_true h2, h4, a, b⟩
    · unfold tellE at h3
      rw [if_neg h4] at h3
      exact absurd h3 h4
theorem strL_inj {a b : ByteArray} (h : strL a = strL b) : a = b := by rw [← strOf_strL a, ← strOf_strL b, h]
theorem strL_app (a b : ByteArray) : strL (a ++ b) = strL a ++ strL b := by simp [strL]
theorem pieceV {s B : ByteArray} {a c : List Int} (i j : Nat) (h : strL s = a ++ (strL B ++ c)) (hi : a.length = i) (hj : B.size = j - i) : s.extract i j = B := by
  apply strL_inj
  rw [strL_extract, h, ← hi, List.drop_left, hi, ← hj, ← strL_length B, List.take_left]
theorem num_read {n k : Int} (hn : n ≤ 9223372036854775807) (h : numE n k = 0) : readV (numS n k) = n ∧ (numS n k).size = k.toNat ∧ (valN (numS n k).data.toList : Int) = n := by
  have hk : numOk n k := by
    rcases Classical.em (numOk n k) with h1 | h1
    · exact h1
    · rw [numE_no h1] at h; cases h
  have h1 := read_num n k hn hk
  refine ⟨h1.1, by rw [numS_yes hk, strOfNums_size, bigL_length], ?_⟩
  have h2 := h1.1
  have h3 := h1.2
  unfold readV at h2
  unfold readE at h3
  split at h3
  · cases h3
  · split at h3
    · cases h3
    · rename_i h4 h5
      rw [if_neg h4, if_neg h5] at h2
      exact h2
theorem two_read {n : Int} (h : 0 ≤ n ∧ n ≤ 65535) : readV (twoT n) = n ∧ (valN (twoT n).data.toList : Int) = n := by
  obtain ⟨k, rfl⟩ := Int.eq_ofNat_of_zero_le h.1
  rw [← big2_two]
  have hk : k < 256 ^ 2 := by omega
  have e := big_num k 2 (by decide) (by decide) hk
  rw [e]
  have h2 : numE (k : Int) ((2 : Nat) : Int) = 0 := numE_yes ((numOk_nat k 2 (by decide) (by decide)).2 hk)
  obtain ⟨a, _, b⟩ := num_read (by omega) h2
  exact ⟨a, b⟩
theorem deal_back {d : XDeal} (h : dealE d = 0) : dealP (dealS d) = d ∧ dealR (dealS d) = d := by
  have hS : dealS d = dealT d := by unfold dealS; rw [if_pos h]
  obtain ⟨k1, k2, k3, k4, k5, k6⟩ := deal_in h
  obtain ⟨sh, tr, am, ca, dy, bt, no⟩ := d
  simp only at k1 k2 k3 k4 k5 k6
  have f1 : numE sh 4 = 0 := by
    obtain ⟨k, rfl⟩ := Int.eq_ofNat_of_zero_le k2.1
    exact numE_yes ((numOk_nat k 4 (by decide) (by decide)).2 (by omega))
  have f2 : numE tr 4 = 0 := by
    obtain ⟨k, rfl⟩ := Int.eq_ofNat_of_zero_le k3.1
    exact numE_yes ((numOk_nat k 4 (by decide) (by decide)).2 (by omega))
  have f3 : numE am 8 = 0 := by
    obtain ⟨k, rfl⟩ := Int.eq_ofNat_of_zero_le k1.1
    exact numE_yes ((numOk_nat k 8 (by decide) (by decide)).2 (by omega))
  obtain ⟨a1, z1, b1⟩ := num_read (by omega) f1
  obtain ⟨a2, z2, b2⟩ := num_read (by omega) f2
  obtain ⟨a3, z3, b3⟩ := num_read (by omega) f3
  obtain ⟨a5, b5⟩ := two_read k4
  obtain ⟨a6, b6⟩ := two_read ⟨k5.1, by omega⟩
  have z4 := oneT_size (flagT ca)
  have z5 := twoT_size dy
  have z6 := twoT_size bt
  have z1' : (numS sh 4).size = 4 := z1
  have z2' : (numS tr 4).size = 4 := z2
  have z3' : (numS am 8).size = 8 := z3
  have hT : dealT ⟨sh, tr, am, ca, dy, bt, no⟩ = numS sh 4 ++ numS tr 4 ++ numS am 8 ++ oneT (flagT ca) ++ twoT dy ++ twoT bt ++ no := rfl
  have hL : strL (dealT ⟨sh, tr, am, ca, dy, bt, no⟩) = strL (numS sh 4) ++ (strL (numS tr 4) ++ (strL (numS am 8) ++ (strL (oneT (flagT ca)) ++ (strL (twoT dy) ++ (strL (twoT bt) ++ strL no))))) := by
    rw [hT]; simp only [strL_app, List.append_assoc]
  have hz : (dealT ⟨sh, tr, am, ca, dy, bt, no⟩).size = 29 := by
    rw [hT]; simp only [ByteArray.size_append]; omega
  rw [hS]
  generalize dealT ⟨sh, tr, am, ca, dy, bt, no⟩ = s at *
  have l1 := strL_length (numS sh 4); have l2 := strL_length (numS tr 4); have l3 := strL_length (numS am 8); have l4 := strL_length (oneT (flagT ca)); have l5 := strL_length (twoT dy); have l6 := strL_length (twoT bt)
  have p1 : s.extract 0 4 = numS sh 4 := pieceV (a := []) 0 4 hL rfl (by omega)
  have p2 : s.extract 4 8 = numS tr 4 := pieceV (a := strL (numS sh 4)) 4 8 hL (by omega) (by omega)
  have p3 : s.extract 8 16 = numS am 8 := pieceV (a := strL (numS sh 4) ++ strL (numS tr 4)) 8 16 (by rw [hL]; simp only [List.append_assoc]; rfl) (by rw [List.length_append]; omega) (by omega)
  have p4 : s.extract 16 17 = oneT (flagT ca) := pieceV (a := strL (numS sh 4) ++ strL (numS tr 4) ++ strL (numS am 8)) 16 17 (by rw [hL]; simp only [List.append_assoc]; rfl) (by simp only [List.length_append]; omega) (by omega)
  have p5 : s.extract 17 19 = twoT dy := pieceV (a := strL (numS sh 4) ++ strL (numS tr 4) ++ strL (numS am 8) ++ strL (oneT (flagT ca))) 17 19 (by rw [hL]; simp only [List.append_assoc]; rfl) (by simp only [List.length_append]; omega) (by omega)
  have p6 : s.extract 19 21 = twoT bt := pieceV (a := strL (numS sh 4) ++ strL (numS tr 4) ++ strL (numS am 8) ++ strL (oneT (flagT ca)) ++ strL (twoT dy)) 19 21 (by rw [hL]; simp only [List.append_assoc]; rfl) (by simp only [List.length_append]; omega) (by omega)
  have p7 : s.extract 21 s.size = no := pieceV (c := []) (a := strL (numS sh 4) ++ strL (numS tr 4) ++ strL (numS am 8) ++ strL (oneT (flagT ca)) ++ strL (twoT dy) ++ strL (twoT bt)) 21 s.size (by rw [hL]; simp only [List.append_assoc, List.append_nil]) (by simp only [List.length_append]; omega) (by omega)
  have hfl : (readV (oneT (flagT ca)) == 1) = ca := by cases ca <;> decide +kernel
  have hby : byteAt s 16 = (flagT ca).toNat := by
    have e := byteAt_extract s 16 17 (by decide) (by omega)
    rw [p4] at e
    rw [← e]
    cases ca <;> decide +kernel
  have hb8 : byteAt s 8 ≤ 127 := by
    have e := byteAt_extract s 8 16 (by decide) (by omega)
    rw [p3] at e
    have h8 := valN_eight (numS am 8) z3'
    have hg := get_byte (numS am 8) 0 (by omega)
    rw [e] at hg
    rcases Nat.lt_or_ge 127 (byteAt s 8) with h1 | h1
    · have := h8.2 (by omega)
      omega
    · exact h1
  constructor
  · unfold dealP
    rw [if_pos hz, p1, p2, p3, p4, p5, p6, p7, a1, a2, a3, a5, a6, hfl]
  · unfold dealR
    rw [if_pos ⟨hz, hb8⟩, p1, p2, p3, p5, p6, p7, b1, b2, b3, b5, b6, hby]
    have : ((flagT ca).toNat == 1) = ca := by cases ca <;> rfl
    rw [this]
/-- the command of a text, as the reference reads it -/
def comG (s : ByteArray) : XCommand := ⟨numR (getR 128 (parsesL s)), getR 129 (parsesL s), getR 130 (parsesL s), numR (getR 131 (parsesL s)), dealR (getR 132 (parsesL s)), getR 133 (parsesL s), getR 134 (parsesL s), getR 135 (parsesL s)⟩
theorem numR_one {n : Int} (h : numE n 1 = 0) (hn : n ≤ 9223372036854775807) : numR (numS n 1) = n ∧ readV (numS n 1) = n := by
  obtain ⟨a, z, b⟩ := num_read hn h
  have z' : (numS n 1).size = 1 := z
  refine ⟨?_, a⟩
  unfold numR
  rw [if_neg (by omega), b]
theorem numR_nil : numR ⟨#[]⟩ = 0 ∧ readV ⟨#[]⟩ = 0 := ⟨by decide +kernel, by decide +kernel⟩
theorem dealP_nil : dealP ⟨#[]⟩ = zeroD ∧ dealR ⟨#[]⟩ = zeroD := ⟨rfl, rfl⟩
theorem com_back {c : XCommand} (h : commandE c = 0) (hw : c.want ≤ 9223372036854775807) : comF (commandS c) = c ∧ comG (commandS c) = c := by
  obtain ⟨hd, ho, hW, hE, hL⟩ := cmd_parts h
  have hg := goodL_cmd c
  have eF : comF (commandS c) = comP [nodeI 161 (cmdL c)] := by unfold comF; rw [if_pos hE, hL]
  have eG : comG (commandS c) = ⟨numR (getR 128 [nodeI 161 (cmdL c)]), getR 129 [nodeI 161 (cmdL c)], getR 130 [nodeI 161 (cmdL c)], numR (getR 131 [nodeI 161 (cmdL c)]), dealR (getR 132 [nodeI 161 (cmdL c)]), getR 133 [nodeI 161 (cmdL c)], getR 134 [nodeI 161 (cmdL c)], getR 135 [nodeI 161 (cmdL c)]⟩ := by unfold comG; rw [hL]
  rw [eF, eG]
  unfold comP
  simp only [got_node _ _ hg, get_node]
  clear eF eG hE hL hg h
  obtain ⟨dO, nm, dg, wn, dl, ex, an, od⟩ := c
  simp only at hd hw
  have hdo : dO = 1 ∨ dO = 2 ∨ dO = 3 ∨ dO = 4 ∨ dO = 5 ∨ dO = 6 ∨ dO = 7 := by omega
  have hn0 : numE dO 1 = 0 := numE_do hd
  obtain ⟨r1, r2⟩ := numR_one hn0 (by omega)
  obtain ⟨q1, q2⟩ := numR_nil
  obtain ⟨d1, d2⟩ := dealP_nil
  clear hd
  rcases hdo with rfl | rfl | rfl | rfl | rfl | rfl | rfl
  · obtain ⟨rfl, rfl, rfl, rfl, rfl, rfl, rfl⟩ : nm = ⟨#[]⟩ ∧ dg = ⟨#[]⟩ ∧ wn = 0 ∧ dl = zeroD ∧ ex = ⟨#[]⟩ ∧ an = ⟨#[]⟩ ∧ od = ⟨#[]⟩ := by simpa [ownC] using ho
    simp [cmdL, lookO, r1, r2, q1, q2, d1, d2]
  · obtain ⟨rfl, rfl, rfl, rfl, rfl, rfl⟩ : dg = ⟨#[]⟩ ∧ wn = 0 ∧ dl = zeroD ∧ ex = ⟨#[]⟩ ∧ an = ⟨#[]⟩ ∧ od = ⟨#[]⟩ := by simpa [ownC] using ho
    simp [cmdL, lookO, r1, r2, q1, q2, d1, d2]
  · obtain ⟨rfl, rfl, rfl, rfl, rfl, rfl, rfl⟩ : nm = ⟨#[]⟩ ∧ dg = ⟨#[]⟩ ∧ wn = 0 ∧ dl = zeroD ∧ ex = ⟨#[]⟩ ∧ an = ⟨#[]⟩ ∧ od = ⟨#[]⟩ := by simpa [ownC] using ho
    simp [cmdL, lookO, r1, r2, q1, q2, d1, d2]
  · obtain ⟨rfl, rfl, rfl, rfl, rfl, rfl⟩ : nm = ⟨#[]⟩ ∧ wn = 0 ∧ dl = zeroD ∧ ex = ⟨#[]⟩ ∧ an = ⟨#[]⟩ ∧ od = ⟨#[]⟩ := by simpa [ownC] using ho
    simp [cmdL, lookO, r1, r2, q1, q2, d1, d2]
  · obtain ⟨rfl, rfl, rfl, rfl⟩ : nm = ⟨#[]⟩ ∧ dg = ⟨#[]⟩ ∧ an = ⟨#[]⟩ ∧ od = ⟨#[]⟩ := by simpa [ownC] using ho
    have hW2 : (if dealE dl = 0 then numE wn 1 else dealE dl) = 0 := hW
    have hd0 : dealE dl = 0 := by
      rcases Classical.em (dealE dl = 0) with h1 | h1
      · exact h1
      · rw [if_neg h1] at hW2; exact hW2
    rw [if_pos hd0] at hW2
    obtain ⟨s1, s2⟩ := numR_one hW2 hw
    obtain ⟨t1, t2⟩ := deal_back hd0
    simp [cmdL, lookO, r1, r2, s1, s2, t1, t2]
  · obtain ⟨rfl, rfl, rfl, rfl, rfl⟩ : nm = ⟨#[]⟩ ∧ dg = ⟨#[]⟩ ∧ dl = zeroD ∧ ex = ⟨#[]⟩ ∧ od = ⟨#[]⟩ := by simpa [ownC] using ho
    have hW2 : numE wn 1 = 0 := hW
    obtain ⟨s1, s2⟩ := numR_one hW2 hw
    simp [cmdL, lookO, r1, r2, s1, s2, d1, d2]
  · obtain ⟨rfl, rfl, rfl, rfl, rfl, rfl⟩ : nm = ⟨#[]⟩ ∧ dg = ⟨#[]⟩ ∧ wn = 0 ∧ dl = zeroD ∧ ex = ⟨#[]⟩ ∧ an = ⟨#[]⟩ := by simpa [ownC] using ho
    simp [cmdL, lookO, r1, r2, q1, q2, d1, d2]
/-- there is one way alone to read -/
theorem readC_same (s : ByteArray) (h1 : (comF s).want ≤ 9223372036854775807) (h2 : (comG s).want ≤ 9223372036854775807) : readC comF s = readC comG s := by
  unfold readC
  by_cases hF : commandE (comF s) = 0 ∧ commandS (comF s) = s
  · obtain ⟨a, b⟩ := hF
    obtain ⟨_, e⟩ := com_back a h1
    rw [b] at e
    rw [if_pos ⟨a, b⟩, e, if_pos ⟨a, b⟩]
  · by_cases hG : commandE (comG s) = 0 ∧ commandS (comG s) = s
    · obtain ⟨a, b⟩ := hG
      obtain ⟨e, _⟩ := com_back a h2
      rw [b] at e
      exfalso
      apply hF
      rw [e]
      exact ⟨a, b⟩
    · rw [if_neg hF, if_neg hG]
end Go.Proofs.YtfpglpefofcdeaaGreatDoor
namespace Go.Proofs.YtfpglpefofcdeaaGreatDoor
open Go.RowKit
set_option linter.unusedVariables false
set_option linter.unusedSimpArgs false

/-- an answer, whatever its addresses -/
def An.strip (a : An) : An := { a with apo := none, apc := 0, fl := a.fl.strip }
theorem answerE_strip (a : An) : answerE a.strip = answerE a := rfl
theorem answerS_strip (a : An) : answerS a.strip = answerS a := rfl
theorem anZ_strip (a : An) : anZ a.strip = anZ a := rfl
theorem answerE_like {a b : An} (h : a.strip = b) : answerE a = answerE b := by rw [← answerE_strip a, h]
theorem answerS_like {a b : An} (h : a.strip = b) : answerS a = answerS b := by rw [← answerS_strip a, h]
theorem anZ_like {a b : An} (h : a.strip = b) : anZ a = anZ b := by rw [← anZ_strip a, h]
def anNil : An := ⟨0, 0, none, [], 0, 0, 0, 0, flZ, 0, 0, ⟨#[]⟩, ⟨#[]⟩, ⟨#[]⟩⟩
theorem anNil_ok (w : World) : AnOK w anNil := by
  have r1 : RowApp w none [] := ⟨.inl rfl, (fun x hx => by cases hx), Nat.zero_le _⟩
  have r2 : RowWay w none [] := ⟨.inl rfl, (fun x hx => by cases hx), Nat.zero_le _⟩
  exact ⟨r1, ⟨Nat.zero_le _, r1, r2, .inl rfl, (fun f hf => by cases hf), by decide, by decide, by decide, by decide⟩, by decide, by decide, by decide, by decide, by decide, by decide, by decide⟩
theorem anNil_z : anZ anNil = 0 := rfl
/-- the answer of items -/
def anP (D : List It) : An := ⟨readV (gotT 128 8 D), readV (gotT 129 8 D), none, readsL (gotT 130 8 D), 0, readV (gotT 131 8 D), readV (gotT 132 8 D), readV (gotT 138 8 D),
  { flP (gotT 133 8 D) with isig := gotT 134 8 D, irest := gotT 135 8 D, csig := gotT 136 8 D, crest := gotT 137 8 D }, readV (gotT 139 8 D), readV (gotT 140 8 D), gotT 141 8 D, gotT 142 8 D, gotT 143 8 D⟩
theorem flL_strip (l : List ByteArray) : (flL l).strip = flL l := by
  by_cases h : l.length = 5
  · obtain ⟨p0, p1, p2, p3, p4, rfl⟩ := flL_five h; rfl
  · rw [flL_not h]; rfl
theorem anP_z (D : List It) (hw : wt 8 D ≤ 65535) : anZ (anP D) ≤ 1048576 := by
  have g1 := got_size 134 8 D; have g2 := got_size 135 8 D; have g3 := got_size 136 8 D; have g4 := got_size 137 8 D; have g5 := got_size 141 8 D; have g6 := got_size 142 8 D; have g7 := got_size 143 8 D
  show (gotT 134 8 D).size + (gotT 135 8 D).size + (gotT 136 8 D).size + (gotT 137 8 D).size + (gotT 141 8 D).size + (gotT 142 8 D).size + (gotT 143 8 D).size ≤ 1048576
  omega
/-- what a text says as an answer -/
def readW (s : ByteArray) : Bool := decide (parsesE s = 0 ∧ answerE (anP (parsesL s)) = 0 ∧ answerS (anP (parsesL s)) = s)
def readWL (s : ByteArray) : An := bif readW s then anP (parsesL s) else anNil
def readWE (s : ByteArray) : Int := bif readW s then 0 else 1
theorem good_136 : goodT 136 := ⟨by decide +kernel, by decide +kernel, by decide, by decide⟩
theorem good_137 : goodT 137 := ⟨by decide +kernel, by decide +kernel, by decide, by decide⟩
theorem good_138 : goodT 138 := ⟨by decide +kernel, by decide +kernel, by decide, by decide⟩
theorem good_139 : goodT 139 := ⟨by decide +kernel, by decide +kernel, by decide, by decide⟩
theorem good_140 : goodT 140 := ⟨by decide +kernel, by decide +kernel, by decide, by decide⟩
theorem good_141 : goodT 141 := ⟨by decide +kernel, by decide +kernel, by decide, by decide⟩
theorem good_142 : goodT 142 := ⟨by decide +kernel, by decide +kernel, by decide, by decide⟩
theorem good_143 : goodT 143 := ⟨by decide +kernel, by decide +kernel, by decide, by decide⟩
theorem made_162 : madeV 162 = true := by decide +kernel
theorem goodL_app {l m : List (Int × ByteArray)} (h : goodL l) (k : goodL m) : goodL (l ++ m) := fun x hx => (List.mem_append.1 hx).elim (h x) (k x)
theorem goodL_add (a : An) : goodL (addL a) := by
  unfold addL
  split
  · exact goodL_cons good_130 goodL_nil
  · split
    · exact goodL_cons good_131 (goodL_cons good_132 (goodL_cons good_133 (goodL_cons good_134 (goodL_cons good_135 (goodL_cons good_136 (goodL_cons good_137 goodL_nil))))))
    · split
      · exact goodL_cons good_138 goodL_nil
      · split
        · exact goodL_cons good_139 (goodL_cons good_140 (goodL_cons good_141 (goodL_cons good_142 (goodL_cons good_143 goodL_nil))))
        · exact goodL_nil
theorem goodL_ans0 (a : An) : goodL (ansL0 a) := goodL_cons good_128 (goodL_cons good_129 goodL_nil)
theorem goodL_ans (a : An) : goodL (ansL a) := by
  unfold ansL
  split
  · exact goodL_app (goodL_ans0 a) (goodL_add a)
  · split
    · exact goodL_app (goodL_ans0 a) (goodL_cons good_138 goodL_nil)
    · exact goodL_ans0 a
theorem got_nodeA (n : Int) (L : List (Int × ByteArray)) (h : goodL L) : gotT n 8 [nodeI 162 L] = (lookO n L).getD ⟨#[]⟩ := by
  have e : findD n 8 [nodeI 162 L] = findD n 7 (L.map leafI) := by
    show List.findSome? (stepF n (findD n 7)) [nodeI 162 L] = _
    have e1 : stepF n (findD n 7) (nodeI 162 L) = findD n 7 (L.map leafI) := by
      unfold stepF
      rw [show (nodeI 162 L).tag = 162 from rfl, made_162, if_pos rfl]
      rfl
    rw [List.findSome?_cons, e1]
    cases findD n 7 (L.map leafI) <;> rfl
  unfold gotT
  rw [e, find_leaves n 6 L h]
theorem ans_parts {a : An} (h : answerE a = 0) : (1 ≤ a.dO ∧ a.dO ≤ 7) ∧ ansW a = 0 ∧ parsesE (answerS a) = 0 ∧ parsesL (answerS a) = [nodeI 162 (ansL a)] := by
  unfold answerE at h
  cases h1 : inT a.dO 1 7 with
  | false => rw [h1] at h; cases h
  | true =>
    rw [h1] at h
    have h3 : tellE 162 (ansL a) (ansW a) = 0 := h
    have hS : answerS a = tellS 162 (ansL a) (ansW a) := by unfold answerS; rw [h1]; rfl
    by_cases h4 : ansW a = 0
    · unfold tellE at h3
      rw [if_pos h4] at h3
      obtain ⟨a', b⟩ := printed_parses (node_deep 162 (ansL a)) h3
      have e : tellS 162 (ansL a) (ansW a) = printsS 2 [nodeI 162 (ansL a)] := by unfold tellS; rw [if_pos h4]
      rw [hS, e]
      exact ⟨inT_true.1 h1, h4, a', b⟩
    · unfold tellE at h3
      rw [if_neg h4] at h3
      exact absurd h3 h4
theorem blE_zero {e x : Int} (h : blE e x = 0) : e = 0 ∧ x = 0 := by
  unfold blE at h
  by_cases h1 : e = 0
  · rw [if_pos h1] at h; exact ⟨h1, h⟩
  · rw [if_neg h1] at h; exact absurd h h1
theorem blE_00 : blE 0 0 = 0 := rfl
theorem file_same {f g : Fl} (h : fileE f = 0) (hg : g = flP (fileS f)) : fileE g = 0 ∧ fileS g = fileS f := by
  obtain ⟨h1, h2, ⟨h3, h4, h5⟩, ⟨h6, h7, h8⟩, h9⟩ := file_back h
  have e : g = { f with isig := ⟨#[]⟩, irest := ⟨#[]⟩, csig := ⟨#[]⟩, crest := ⟨#[]⟩ }.strip := by
    rw [hg]
    unfold flP
    rw [h1]
    show flQ f.id (appsS f.apps) (wayT f.ways) (masksS f.md f.mo f.mf) (printS f.row) = _
    unfold flQ
    rw [h2, h3, h4, h5, h6, h7, h8, h9]
    rfl
  rw [e, fileE_strip, fileS_strip]
  exact ⟨h, rfl⟩
theorem file_cert (f : Fl) (a b c d : ByteArray) : fileE { f with isig := a, irest := b, csig := c, crest := d } = fileE f ∧ fileS { f with isig := a, irest := b, csig := c, crest := d } = fileS f := ⟨rfl, rfl⟩
/-- what an answer says of itself, read anew -/
theorem ans_back {a b : An} (hb : b = anP [nodeI 162 (ansL a)]) (hW : ansW a = 0) (he : a.er ≤ 9223372036854775807) (hd : a.dO ≤ 9223372036854775807) (hc : a.count ≤ 9223372036854775807) (hl : a.last ≤ 9223372036854775807) (hf : a.left ≤ 9223372036854775807) (hk : a.kind ≤ 9223372036854775807) (hr : a.rcount ≤ 9223372036854775807) :
    b.dO = a.dO ∧ ansL b = ansL a ∧ ansW b = 0 := by
  have hg := goodL_ans a
  have h0 : ansW0 a = 0 := by
    unfold ansW at hW
    split at hW
    · unfold addW at hW
      split at hW
      · exact (blE_zero hW).1
      · split at hW
        · exact (blE_zero (blE_zero (blE_zero hW).1).1).1
        · split at hW
          · exact (blE_zero hW).1
          · split at hW
            · exact (blE_zero (blE_zero hW).1).1
            · exact hW
    · split at hW
      · exact (blE_zero hW).1
      · exact hW
  obtain ⟨h1, h2⟩ := blE_zero h0
  have h1 := (blE_zero h1).2
  have l128 : lookO 128 (ansL a) = some (numS a.er 1) := by
    unfold ansL; split
    · rfl
    · split <;> rfl
  have l129 : lookO 129 (ansL a) = some (numS a.dO 1) := by
    unfold ansL; split
    · rfl
    · split <;> rfl
  have ber : b.er = a.er := by
    rw [hb]; show readV (gotT 128 8 _) = _
    rw [got_nodeA _ _ hg, l128]; exact (num_read he h1).1
  have bdO : b.dO = a.dO := by
    rw [hb]; show readV (gotT 129 8 _) = _
    rw [got_nodeA _ _ hg, l129]; exact (num_read hd h2).1
  have e0 : ansL0 b = ansL0 a := by unfold ansL0; rw [ber, bdO]
  have w0 : ansW0 b = 0 := by rw [show ansW0 b = ansW0 a by unfold ansW0; rw [ber, bdO]]; exact h0
  refine ⟨bdO, ?_⟩
  by_cases z0 : a.er = 0
  · have hL : ansL a = ansL0 a ++ addL a := by unfold ansL; rw [if_pos z0]
    have hLb : ansL b = ansL0 a ++ addL b := by unfold ansL; rw [if_pos (ber.trans z0), e0]
    have hWa : addW a (ansW0 a) = 0 := by unfold ansW at hW; rw [if_pos z0] at hW; exact hW
    have hWb : ansW b = addW b 0 := by unfold ansW; rw [if_pos (ber.trans z0), w0]
    rw [hL, hLb, hWb]
    rw [hL] at hb hg
    rw [h0] at hWa
    suffices h : addL b = addL a ∧ addW b 0 = 0 from ⟨by rw [h.1], h.2⟩
    unfold addL addW
    rw [bdO]
    unfold addW at hWa
    by_cases c1 : a.dO = 1
    · rw [if_pos c1] at hWa
      rw [if_pos c1, if_pos c1, if_pos c1]
      have q : b.apps = a.apps := by
        rw [hb]; show readsL (gotT 130 8 _) = _
        rw [got_nodeA _ _ hg, show lookO 130 (ansL0 a ++ addL a) = some (appsS a.apps) by unfold addL; rw [if_pos c1]; rfl]
        show readsL (appsS a.apps) = _
        have hap : appsE a.apps = 0 := (blE_zero hWa).2
        unfold readsL appsS
        rw [if_pos hap, readA_of appP_item hap]
        rfl
      rw [q, (blE_zero hWa).2]
      exact ⟨rfl, rfl⟩
    rw [if_neg c1] at hWa
    rw [if_neg c1, if_neg c1, if_neg c1]
    by_cases c3 : a.dO = 3
    · rw [if_pos c3] at hWa
      rw [if_pos c3, if_pos c3, if_pos c3]
      obtain ⟨k1, k2⟩ := blE_zero hWa
      obtain ⟨k3, k4⟩ := blE_zero k1
      have k5 := (blE_zero k3).2
      have hA : ansL0 a ++ addL a = [(128, numS a.er 1), (129, numS a.dO 1), (131, numS a.count 2), (132, numS a.last 2), (133, fileS a.fl), (134, a.fl.isig), (135, a.fl.irest), (136, a.fl.csig), (137, a.fl.crest)] := by unfold addL; rw [if_neg c1, if_pos c3]; rfl
      rw [hA] at hb hg
      have q1 : b.count = a.count := by
        rw [hb]; show readV (gotT 131 8 _) = _
        rw [got_nodeA _ _ hg]; exact (num_read hc k5).1
      have q2 : b.last = a.last := by
        rw [hb]; show readV (gotT 132 8 _) = _
        rw [got_nodeA _ _ hg]; exact (num_read hl k4).1
      have q3 : b.fl = { flP (fileS a.fl) with isig := a.fl.isig, irest := a.fl.irest, csig := a.fl.csig, crest := a.fl.crest } := by
        rw [hb]
        show ({ flP (gotT 133 8 _) with isig := gotT 134 8 _, irest := gotT 135 8 _, csig := gotT 136 8 _, crest := gotT 137 8 _ } : Fl) = _
        rw [got_nodeA _ _ hg, got_nodeA _ _ hg, got_nodeA _ _ hg, got_nodeA _ _ hg, got_nodeA _ _ hg]
        rfl
      obtain ⟨f1, f2⟩ := file_same k2 rfl
      obtain ⟨g1, g2⟩ := file_cert (flP (fileS a.fl)) a.fl.isig a.fl.irest a.fl.csig a.fl.crest
      have q4 : fileS b.fl = fileS a.fl := by rw [q3, g2, f2]
      have q5 : fileE b.fl = 0 := by rw [q3, g1, f1]
      rw [q1, q2, q4, q5, k4, k5, q3]
      exact ⟨rfl, rfl⟩
    rw [if_neg c3] at hWa
    rw [if_neg c3, if_neg c3, if_neg c3]
    by_cases c4 : a.dO = 4
    · rw [if_pos c4] at hWa
      rw [if_pos c4, if_pos c4, if_pos c4]
      have k2 := (blE_zero hWa).2
      have q1 : b.left = a.left := by
        rw [hb]; show readV (gotT 138 8 _) = _
        rw [got_nodeA _ _ hg, show lookO 138 (ansL0 a ++ addL a) = some (numS a.left 1) by unfold addL; rw [if_neg c1, if_neg c3, if_pos c4]; rfl]
        exact (num_read hf k2).1
      rw [q1, k2]
      exact ⟨rfl, rfl⟩
    rw [if_neg c4] at hWa
    rw [if_neg c4, if_neg c4, if_neg c4]
    by_cases c5 : a.dO = 5 ∨ a.dO = 6
    · rw [if_pos c5] at hWa
      rw [if_pos c5, if_pos c5, if_pos c5]
      obtain ⟨k1, k2⟩ := blE_zero hWa
      have k3 := (blE_zero k1).2
      have hA : ansL0 a ++ addL a = [(128, numS a.er 1), (129, numS a.dO 1), (139, numS a.kind 1), (140, numS a.rcount 2), (141, a.sl), (142, a.bsig), (143, a.brest)] := by unfold addL; rw [if_neg c1, if_neg c3, if_neg c4, if_pos c5]; rfl
      rw [hA] at hb hg
      have q1 : b.kind = a.kind := by
        rw [hb]; show readV (gotT 139 8 _) = _
        rw [got_nodeA _ _ hg]; exact (num_read hk k3).1
      have q2 : b.rcount = a.rcount := by
        rw [hb]; show readV (gotT 140 8 _) = _
        rw [got_nodeA _ _ hg]; exact (num_read hr k2).1
      have q3 : b.sl = a.sl := by
        rw [hb]; show gotT 141 8 _ = _
        rw [got_nodeA _ _ hg]; rfl
      have q4 : b.bsig = a.bsig := by
        rw [hb]; show gotT 142 8 _ = _
        rw [got_nodeA _ _ hg]; rfl
      have q5 : b.brest = a.brest := by
        rw [hb]; show gotT 143 8 _ = _
        rw [got_nodeA _ _ hg]; rfl
      rw [q1, q2, q3, q4, q5, k2, k3]
      exact ⟨rfl, rfl⟩
    rw [if_neg c5, if_neg c5, if_neg c5]
    exact ⟨rfl, rfl⟩
  · by_cases c : a.er = 10 ∧ a.dO = 4
    · have hL : ansL a = ansL0 a ++ [(138, numS a.left 1)] := by unfold ansL; rw [if_neg z0, if_pos c]
      have cb : b.er = 10 ∧ b.dO = 4 := by rw [ber, bdO]; exact c
      have zb : b.er ≠ 0 := by rw [ber]; exact z0
      have hWa : blE (ansW0 a) (numE a.left 1) = 0 := by unfold ansW at hW; rw [if_neg z0, if_pos c] at hW; exact hW
      have k2 := (blE_zero hWa).2
      have q1 : b.left = a.left := by
        rw [hb]; show readV (gotT 138 8 _) = _
        rw [got_nodeA _ _ hg, show lookO 138 (ansL a) = some (numS a.left 1) by rw [hL]; rfl]
        exact (num_read hf k2).1
      unfold ansW
      rw [if_neg zb, if_pos cb, w0, q1, k2, hL]
      refine ⟨?_, rfl⟩
      unfold ansL
      rw [if_neg zb, if_pos cb, e0, q1]
    · have cb : ¬ (b.er = 10 ∧ b.dO = 4) := by rw [ber, bdO]; exact c
      have zb : b.er ≠ 0 := by rw [ber]; exact z0
      unfold ansL ansW
      rw [if_neg zb, if_neg cb, if_neg zb, if_neg cb, if_neg z0, if_neg c]
      exact ⟨e0, w0⟩
/-- what is written is read -/
theorem answer_back {w : World} {a : An} (hok : AnOK w a) (h : answerE a = 0) : readW (answerS a) = true := by
  obtain ⟨h1, h2, h3, h4⟩ := ans_parts h
  obtain ⟨b1, b2, b3⟩ := ans_back rfl h2 hok.er hok.dO hok.count hok.last hok.left hok.kind hok.rcount
  unfold readW
  apply decide_eq_true
  rw [h4]
  have hd : inT a.dO 1 7 = true := inT_true.2 h1
  have e : answerE (anP [nodeI 162 (ansL a)]) = answerE a := by unfold answerE; rw [b1, b2, b3, h2]
  have e2 : answerS (anP [nodeI 162 (ansL a)]) = answerS a := by unfold answerS; rw [b1, b2, b3, h2]
  exact ⟨h3, e.trans h, e2⟩
end Go.Proofs.YtfpglpefofcdeaaGreatDoor
