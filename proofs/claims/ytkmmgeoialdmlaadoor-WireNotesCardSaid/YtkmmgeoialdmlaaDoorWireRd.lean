/- The reference's reading of a message, plain. -/
import Derived.Test.YtkmmgeoialdmlaaDoorWireV
namespace Go.Proofs.YtkmmgeoialdmlaaDoor
open Go.RowKit
set_option linter.unusedVariables false

def partR (n : Nat) (l : List UInt8) : Option (List UInt8 × List UInt8) :=
  if 0 < fahead n then
    if l.length < fahead n ∨ (l.take (fahead n)).all isDig = false then none
    else if l.length < fahead n + valD (l.take (fahead n)) then none
    else some ((l.drop (fahead n)).take (valD (l.take (fahead n))), l.drop (fahead n + valD (l.take (fahead n))))
  else if l.length < fmost n then none else some (l.take (fmost n), l.drop (fmost n))
def readR : Nat → Nat → Nat → List UInt8 → Option (List Prt)
  | 0, _, _, _ => some []
  | f + 1, n, bits, l =>
    if bits / 2 ^ (16 - n) % 2 = 1 then
      match partR n l with
      | none => none
      | some (a, r) => (readR f (n + 1) bits r).map (((n : Int), ⟨a.toArray⟩) :: ·)
    else readR f (n + 1) bits l
def msgR (l : List UInt8) : Option (Int × List Prt) :=
  if l.length < 4 ∨ (l.take 2).all isDig = false then none
  else (readR 16 1 (bitsL ((l.drop 2).take 2)) (l.drop 4)).map (((valD (l.take 2) : Nat) : Int), ·)
theorem partR_app (n : Nat) (h1 : 1 ≤ n) (h16 : n ≤ 16) (s : ByteArray) (b : List UInt8) (h : takesB n s = true) : partR n (fieldL ((n : Int), s) ++ b) = some (s.data.toList, b) := by
  obtain ⟨t1, t2⟩ := takes_ahead n h1 h16 s h
  have hz : s.data.toList.length = s.size := by rw [Array.length_toList]; rfl
  unfold partR fieldL aheadL
  simp only [Int.toNat_natCast]
  by_cases h0 : 0 < fahead n
  · have hd : (digs s.size (fahead n)).length = fahead n := digs_length _ _
    have e1 : (digs s.size (fahead n) ++ s.data.toList ++ b).take (fahead n) = digs s.size (fahead n) := by
      rw [List.append_assoc, List.take_append_of_le_length (by omega), List.take_of_length_le (by omega)]
    have e2 : (digs s.size (fahead n) ++ s.data.toList ++ b).drop (fahead n) = s.data.toList ++ b := by
      rw [List.append_assoc]
      have := List.drop_left (l₁ := digs s.size (fahead n)) (l₂ := s.data.toList ++ b)
      rwa [hd] at this
    have e3 : valD (digs s.size (fahead n)) = s.size := by rw [valD_digs, Nat.mod_eq_of_lt (t1 h0)]
    have el : (digs s.size (fahead n) ++ s.data.toList ++ b).length = fahead n + s.size + b.length := by rw [List.length_append, List.length_append, hd, hz]
    rw [if_pos h0, e1, e3, el, digs_all, if_neg (by simp; omega), if_neg (by omega), ← List.drop_drop, e2]
    have k1 := List.take_left (l₁ := s.data.toList) (l₂ := b)
    have k2 := List.drop_left (l₁ := s.data.toList) (l₂ := b)
    rw [hz] at k1 k2
    rw [k1, k2]
  · have e0 : fahead n = 0 := by omega
    rw [if_neg h0, e0]
    have k1 := List.take_left (l₁ := s.data.toList) (l₂ := b)
    have k2 := List.drop_left (l₁ := s.data.toList) (l₂ := b)
    rw [hz, t2 e0] at k1 k2
    show (if (s.data.toList ++ b).length < _ then _ else some ((s.data.toList ++ b).take _, (s.data.toList ++ b).drop _)) = _
    rw [k1, k2, if_neg (by rw [List.length_append, hz, t2 e0]; omega)]
theorem readR_body : ∀ (f n bits : Nat) (ps : List Prt), n + f = 17 → 1 ≤ n → goodP ((n - 1 : Nat) : Int) ps = true → bits % 2 ^ (17 - n) = mapN ps → readR f n bits (bodyL ps) = some ps
  | 0, n, bits, ps, hn, _, hg, _ => by
    have : n = 17 := by omega
    subst this
    cases ps with
    | nil => rfl
    | cons p r => have := (good_cons hg).1; have := (good_cons hg).2.1; omega
  | f + 1, n, bits, ps, hn, h1, hg, hb => by
    have hpow : 2 ^ (17 - n) = 2 ^ (16 - n) * 2 := by rw [← Nat.pow_succ]; congr 1; omega
    have hq : bits / 2 ^ (16 - n) % 2 = mapN ps / 2 ^ (16 - n) := by rw [← hb, hpow, Nat.mod_mul_right_div_self]
    have hr : bits % 2 ^ (17 - (n + 1)) = mapN ps % 2 ^ (16 - n) := by
      rw [show 17 - (n + 1) = 16 - n by omega, ← hb, hpow, Nat.mod_mul_right_mod]
    simp only [readR]
    rw [hq]
    have hpos : 0 < 2 ^ (16 - n) := Nat.pow_pos (by decide)
    by_cases hh : ∃ p r, ps = p :: r ∧ p.1 = (n : Int)
    · obtain ⟨p, r, rfl, hp⟩ := hh
      obtain ⟨g1, g2, g3, g4⟩ := good_cons hg
      obtain ⟨pn, s⟩ := p
      simp only at hp g1 g2 g3 g4
      subst hp
      have hm := mapN_lt r n g4 (by omega)
      have e : mapN (((n : Int), s) :: r) = 2 ^ (16 - n) + mapN r := by simp [mapN, bitN]
      rw [e] at hr ⊢
      have hdiv : (2 ^ (16 - n) + mapN r) / 2 ^ (16 - n) = 1 := by
        rw [Nat.add_div_left _ hpos, Nat.div_eq_of_lt hm]
      rw [if_pos hdiv]
      have hbody : bodyL (((n : Int), s) :: r) = fieldL ((n : Int), s) ++ bodyL r := by simp [bodyL]
      rw [hbody, partR_app n h1 (by omega) s _ (by simpa using g3)]
      simp only
      rw [readR_body f (n + 1) bits r (by omega) (by omega) (by simpa using g4) (by rw [hr, Nat.add_mod_left, Nat.mod_eq_of_lt hm])]
      rfl
    · have hg' : goodP (n : Int) ps = true := by
        cases ps with
        | nil => rfl
        | cons p r =>
          obtain ⟨g1, g2, g3, g4⟩ := good_cons hg
          have hne : p.1 ≠ (n : Int) := fun e => hh ⟨p, r, rfl, e⟩
          simp only [goodP, Bool.and_eq_true, decide_eq_true_eq]
          exact ⟨⟨⟨by omega, g2⟩, g3⟩, g4⟩
      have hm := mapN_lt ps n hg' (by omega)
      rw [Nat.div_eq_of_lt hm, if_neg (by decide)]
      exact readR_body f (n + 1) bits ps (by omega) (by omega) (by simpa using hg') (by rw [hr, Nat.mod_eq_of_lt hm])
theorem good_of_packE {kind : Int} {ps : List Prt} (h : packE kind ps = 0) : 0 ≤ kind ∧ kind ≤ 99 ∧ goodP 0 ps = true := by
  have hk : ¬ (kind < 0 ∨ 99 < kind) := by intro hx; rw [packE, if_pos hx] at h; cases h
  refine ⟨by omega, by omega, ?_⟩
  rw [packE, if_neg hk] at h
  cases hb : goodP 0 ps with
  | true => rfl
  | false => rw [hb] at h; cases h
/-- what is written is read, by the reference too -/
theorem msgR_pack (kind : Int) (ps : List Prt) (h : packE kind ps = 0) : msgR (packL kind ps) = some (kind, ps) := by
  obtain ⟨h0, h99, hg⟩ := good_of_packE h
  have hm := mapN_lt ps 0 hg (by omega)
  have h16 : (2 : Nat) ^ (16 - 0) = 65536 := by decide
  obtain ⟨k, rfl⟩ : ∃ k : Nat, kind = (k : Int) := ⟨kind.toNat, by omega⟩
  have hd : (digs k 2).length = 2 := digs_length _ _
  have hp : packL (k : Int) ps = digs k 2 ++ ([UInt8.ofNat (mapN ps / 256), UInt8.ofNat (mapN ps % 256)] ++ bodyL ps) := by
    unfold packL
    rw [List.append_assoc, Int.toNat_natCast]
  have e1 : (packL (k : Int) ps).take 2 = digs k 2 := by
    rw [hp]
    have := List.take_left (l₁ := digs k 2) (l₂ := [UInt8.ofNat (mapN ps / 256), UInt8.ofNat (mapN ps % 256)] ++ bodyL ps)
    rwa [hd] at this
  have e2 : (packL (k : Int) ps).drop 2 = [UInt8.ofNat (mapN ps / 256), UInt8.ofNat (mapN ps % 256)] ++ bodyL ps := by
    rw [hp]
    have := List.drop_left (l₁ := digs k 2) (l₂ := [UInt8.ofNat (mapN ps / 256), UInt8.ofNat (mapN ps % 256)] ++ bodyL ps)
    rwa [hd] at this
  have e4 : (packL (k : Int) ps).drop 4 = bodyL ps := by
    rw [show 4 = 2 + 2 from rfl, ← List.drop_drop, e2]; rfl
  have el : (packL (k : Int) ps).length = 4 + (bodyL ps).length := by rw [hp, List.length_append, hd, List.length_append]; simp; omega
  have eb : bitsL ((((packL (k : Int) ps).drop 2)).take 2) = mapN ps := by
    rw [e2]
    show bitsL [UInt8.ofNat (mapN ps / 256), UInt8.ofNat (mapN ps % 256)] = _
    simp only [bitsL, List.foldl_cons, List.foldl_nil]
    rw [UInt8.toNat_ofNat', UInt8.toNat_ofNat']
    omega
  have ev : valD (digs k 2) = k := by rw [valD_digs, Nat.mod_eq_of_lt (by omega)]
  unfold msgR
  rw [e1, eb, e4, el, digs_all, ev, if_neg (by simp), readR_body 16 1 (mapN ps) ps (by omega) (by omega) hg (Nat.mod_eq_of_lt (by simpa using hm))]
  rfl
/-- what the reference answers -/
def unpR (s : ByteArray) : Option (Int × List Prt) := (msgR s.data.toList).filter fun m => decide (packE m.1 m.2 = 0 ∧ packS m.1 m.2 = s)
theorem packS_list {k : Int} {ps : List Prt} {s : ByteArray} (h : packE k ps = 0 ∧ packS k ps = s) : s.data.toList = packL k ps := by
  rw [← h.2, packS, if_pos h.1]
theorem unpR_same (s : ByteArray) : unpR s = if unpB s then some (msgP s.data.toList) else none := by
  cases hb : unpB s with
  | true =>
    have h := of_decide_eq_true hb
    have e := packS_list h
    have hr := msgR_pack _ _ h.1
    rw [← e] at hr
    unfold unpR
    rw [hr]
    simp only [Option.filter]
    rw [if_pos (decide_eq_true h)]
    rfl
  | false =>
    have h := of_decide_eq_false hb
    unfold unpR
    cases hr : msgR s.data.toList with
    | none => rfl
    | some m =>
      simp only [Option.filter]
      rw [if_neg]
      · rfl
      · intro hd
        have h2 := of_decide_eq_true hd
        have e := packS_list h2
        have hp := msgP_pack _ _ h2.1
        rw [← e] at hp
        rw [hp] at h
        exact h h2
end Go.Proofs.YtkmmgeoialdmlaaDoor
