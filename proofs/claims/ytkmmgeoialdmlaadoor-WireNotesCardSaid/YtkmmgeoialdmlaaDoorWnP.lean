/- Notes, plain: how they are written and read; both readings are one. -/
import Derived.Test.YtkmmgeoialdmlaaDoorWirePk
namespace Go.Proofs.YtkmmgeoialdmlaaDoor
open Go.RowKit
set_option linter.unusedVariables false

/-- a note by its fields -/
structure Nt where
  kind : Int
  num : Nat → Int
  txt : Nat → ByteArray
def isNum (f : Nat) : Bool := [false, false, true, true, true, true, true, true, false, false, true, false, true, true, false, false, false].getD f false
def fieldsL (k : Int) : List Nat :=
  if k = 1 then [1, 2, 3, 4, 5, 6, 7, 8, 9, 10, 11, 16] else if k = 2 then [1, 2, 3, 4, 5, 6, 7, 8, 9, 10, 11, 12] else if k = 3 then [5, 6] else if k = 4 then [2, 5, 6] else if k = 11 then [5, 6, 13, 14, 15] else if k = 12 ∨ k = 13 ∨ k = 14 then [5, 6, 13] else []
theorem fieldsL_nodup (k : Int) : (fieldsL k).Nodup := by
  unfold fieldsL
  repeat' split
  all_goals decide
theorem fieldsL_range (k : Int) : ∀ f ∈ fieldsL k, 1 ≤ f ∧ f ≤ 16 := by
  unfold fieldsL
  repeat' split
  all_goals decide
theorem fieldsL_len (k : Int) : (fieldsL k).length ≤ 12 := by
  unfold fieldsL
  repeat' split
  all_goals decide
theorem isNum_most (f : Nat) (h : isNum f = true) : 1 ≤ f ∧ f ≤ 13 ∧ 1 ≤ fmost f ∧ fmost f ≤ 12 := by
  have h16 : f ≤ 16 := by
    rcases Nat.lt_or_ge f 17 with h' | h'
    · omega
    · unfold isNum at h
      rw [List.getD_eq_getElem?_getD, List.getElem?_eq_none (by simpa using h')] at h
      cases h
  have : ∀ k : Fin 17, isNum k.val = true → 1 ≤ k.val ∧ k.val ≤ 13 ∧ 1 ≤ fmost k.val ∧ fmost k.val ≤ 12 := by decide
  exact this ⟨f, by omega⟩ h
def inR (x : Nt) (f : Nat) : Bool := decide (0 ≤ x.num f ∧ x.num f < ((10 ^ fmost f : Nat) : Int))
def numT (n : Int) (f : Nat) : ByteArray := ⟨(digs n.toNat (fmost f)).toArray⟩
def textN (x : Nt) (f : Nat) : ByteArray := if isNum f then numT (x.num f) f else x.txt f
def partN (x : Nt) (f : Nat) : Prt := ((f : Int), textN x f)
def goodF (x : Nt) (f : Nat) : Bool := !isNum f || inR x f
def okN (x : Nt) : Bool := (fieldsL x.kind).all (goodF x)
def partsN (x : Nt) : List Prt := (fieldsL x.kind).map (partN x)
def wrE (x : Nt) : Int := if fieldsL x.kind = [] then 4 else if okN x then packE x.kind (partsN x) else 3
def wrS (x : Nt) : ByteArray := if fieldsL x.kind = [] then ⟨#[]⟩ else if okN x then packS x.kind (partsN x) else ⟨#[]⟩
/-- the note's cash is a bool -/
def cashN (n : Int) : Int := if n = 1 then 1 else 0
def nrm (x : Nt) : Nt := { x with num := fun f => if f = 3 then cashN (x.num 3) else x.num f }
def Cashy (x : Nt) : Prop := x.num 3 = 0 ∨ x.num 3 = 1
theorem nrm_cashy (x : Nt) : Cashy (nrm x) := by
  unfold Cashy nrm cashN
  simp only [if_true]
  split
  · exact .inr rfl
  · exact .inl rfl
def noteC (k : Int) (N : Nat → Int) (T : Nat → ByteArray) (cash : Bool) : List Value :=
  [.int .i64 k, .int .i64 (N 10), .int .i64 (N 12), .int .i64 (N 13), .string (T 1), .string (T 9), .string (T 11), .string (T 14), .string (T 15), .string (T 16), .int .i64 (N 5), .int .i64 (N 6), .int .i64 (N 2), .bool cash, .int .i64 (N 4), .int .i64 (N 7), .string (T 8)]
def noteV (x : Nt) : Value := .agg (noteC x.kind x.num x.txt (decide (x.num 3 = 1))).toArray
/-- what is alike in the fields of a kind -/
theorem wr_same {x y : Nt} (hk : x.kind = y.kind) (h : ∀ f ∈ fieldsL x.kind, (isNum f = true → x.num f = y.num f) ∧ (isNum f = false → x.txt f = y.txt f)) : wrE x = wrE y ∧ wrS x = wrS y := by
  have ht : ∀ f ∈ fieldsL x.kind, textN x f = textN y f := fun f hf => by
    unfold textN
    cases hn : isNum f with
    | true => simp only [if_true]; rw [(h f hf).1 hn]
    | false => simp only [Bool.false_eq_true, if_false]; exact (h f hf).2 hn
  have hp : partsN x = partsN y := by
    unfold partsN
    rw [← hk]
    exact List.map_congr_left fun f hf => by unfold partN; rw [ht f hf]
  have ho : okN x = okN y := by
    unfold okN
    rw [← hk]
    refine Bool.eq_iff_iff.2 ⟨fun ha => List.all_eq_true.2 fun f hf => ?_, fun ha => List.all_eq_true.2 fun f hf => ?_⟩
    · have := List.all_eq_true.1 ha f hf
      unfold goodF inR at this ⊢
      cases hn : isNum f with
      | true => rw [hn] at this; rw [← (h f hf).1 hn]; exact this
      | false => rfl
    · have := List.all_eq_true.1 ha f hf
      unfold goodF inR at this ⊢
      cases hn : isNum f with
      | true => rw [hn] at this; rw [(h f hf).1 hn]; exact this
      | false => rfl
  unfold wrE wrS
  rw [← hk, ho, hp]
  exact ⟨rfl, rfl⟩
theorem wr_ok {x : Nt} (h : wrE x = 0) : fieldsL x.kind ≠ [] ∧ okN x = true ∧ packE x.kind (partsN x) = 0 ∧ wrS x = packS x.kind (partsN x) := by
  unfold wrE at h
  by_cases h1 : fieldsL x.kind = []
  · rw [if_pos h1] at h; cases h
  · rw [if_neg h1] at h
    cases h2 : okN x with
    | false => rw [h2] at h; cases h
    | true =>
      rw [h2] at h
      refine ⟨h1, rfl, h, ?_⟩
      unfold wrS
      rw [if_neg h1, h2]; rfl
/-- the text of each field that was read -/
def rawP (ps : List Prt) : Nat → Option ByteArray := ps.foldl (fun st p i => if i = p.1.toNat then some p.2 else st i) (fun _ => none)
theorem rawP_snoc (ps : List Prt) (p : Prt) : rawP (ps ++ [p]) = fun i => if i = p.1.toNat then some p.2 else rawP ps i := by
  unfold rawP
  rw [List.foldl_append]; rfl
theorem raw_get (x : Nt) : ∀ (fs : List Nat) (st : Nat → Option ByteArray) (f : Nat), ((fs.map (partN x)).foldl (fun st p i => if i = p.1.toNat then some p.2 else st i) st) f = if f ∈ fs then some (textN x f) else st f
  | [], st, f => by simp
  | g :: r, st, f => by
    rw [List.map_cons, List.foldl_cons, raw_get x r]
    by_cases h1 : f ∈ r
    · rw [if_pos h1, if_pos (List.mem_cons_of_mem _ h1)]
    · rw [if_neg h1]
      by_cases h2 : f = g
      · subst h2
        simp [partN]
      · rw [if_neg (by simp [partN]; exact h2), if_neg (by simp [h1, h2])]
theorem raw_parts (x : Nt) (f : Nat) : rawP (partsN x) f = if f ∈ fieldsL x.kind then some (textN x f) else none := raw_get x _ _ f
def pnum : Option ByteArray → Int
  | some t => atoiN t.data.toList
  | none => 0
def ptxt : Option ByteArray → ByteArray
  | some t => t
  | none => ⟨#[]⟩
/-- the reference's number: of at most 12 bytes -/
def rvalL (l : List UInt8) : Nat := l.foldl (fun a b => 10 * a + (b.toNat + 208) % 256) 0
def rnum : Option ByteArray → Int
  | some t => ((rvalL (t.data.toList.take 12) : Nat) : Int)
  | none => 0
theorem rval_digs (l : List UInt8) (h : l.all isDig = true) : rvalL l = valD l := by
  have : ∀ (l : List UInt8) (a : Nat), l.all isDig = true → l.foldl (fun a b => 10 * a + (b.toNat + 208) % 256) a = l.foldl (fun a b => 10 * a + (b.toNat - 48)) a := by
    intro l
    induction l with
    | nil => intro a _; rfl
    | cons b r ih =>
      intro a h
      rw [List.all_cons, Bool.and_eq_true, isDig_iff] at h
      rw [List.foldl_cons, List.foldl_cons, ih _ h.2]
      congr 1
      have := b.toNat_lt
      omega
  exact this l 0 h
theorem num_back (n : Int) (f : Nat) (hf : isNum f = true) (h0 : 0 ≤ n) (h1 : n < ((10 ^ fmost f : Nat) : Int)) : pnum (some (numT n f)) = n ∧ rnum (some (numT n f)) = n := by
  obtain ⟨_, _, hm1, hm12⟩ := isNum_most f hf
  have hl : (numT n f).data.toList = digs n.toNat (fmost f) := rfl
  have hlen : (digs n.toNat (fmost f)).length = fmost f := digs_length _ _
  have hv : valD (digs n.toNat (fmost f)) = n.toNat := by rw [valD_digs, Nat.mod_eq_of_lt (by omega)]
  constructor
  · show atoiN (numT n f).data.toList = n
    rw [hl, atoiN, atoi_digits _ (digs_all _ _) (by intro e; rw [e] at hlen; simp at hlen; omega) (by omega), hv]
    show ((n.toNat : Nat) : Int) = n
    omega
  · show ((rvalL ((numT n f).data.toList.take 12) : Nat) : Int) = n
    rw [hl, List.take_of_length_le (by omega), rval_digs _ (digs_all _ _), hv]
    omega
def ntP (k : Int) (ps : List Prt) : Nt := ⟨k, fun f => pnum (rawP ps f), fun f => ptxt (rawP ps f)⟩
def ntR (k : Int) (ps : List Prt) : Nt := ⟨k, fun f => rnum (rawP ps f), fun f => ptxt (rawP ps f)⟩
theorem good_in {x : Nt} (ho : okN x = true) {f : Nat} (hf : f ∈ fieldsL x.kind) (hn : isNum f = true) : 0 ≤ x.num f ∧ x.num f < ((10 ^ fmost f : Nat) : Int) := by
  have := List.all_eq_true.1 ho f hf
  unfold goodF inR at this
  rw [hn] at this
  exact of_decide_eq_true (by simpa using this)
/-- what was written, read by both -/
theorem nt_back {x : Nt} (ho : okN x = true) (f : Nat) (hn : isNum f = true) : pnum (rawP (partsN x) f) = (if f ∈ fieldsL x.kind then x.num f else 0) ∧ rnum (rawP (partsN x) f) = (if f ∈ fieldsL x.kind then x.num f else 0) := by
  rw [raw_parts]
  by_cases hf : f ∈ fieldsL x.kind
  · rw [if_pos hf, if_pos hf]
    obtain ⟨h0, h1⟩ := good_in ho hf hn
    have e : textN x f = numT (x.num f) f := by unfold textN; rw [hn]; rfl
    rw [e]
    exact num_back _ f hn h0 h1
  · rw [if_neg hf, if_neg hf]; exact ⟨rfl, rfl⟩
theorem nt_same {x : Nt} (ho : okN x = true) (k : Int) : noteV (nrm (ntP k (partsN x))) = noteV (nrm (ntR k (partsN x))) ∧ wrE (nrm (ntP k (partsN x))) = wrE (nrm (ntR k (partsN x))) ∧ wrS (nrm (ntP k (partsN x))) = wrS (nrm (ntR k (partsN x))) := by
  have hb : ∀ f, isNum f = true → (ntP k (partsN x)).num f = (ntR k (partsN x)).num f := fun f hn => by
    obtain ⟨h1, h2⟩ := nt_back ho f hn
    exact h1.trans h2.symm
  have hb' : ∀ f, isNum f = true → (nrm (ntP k (partsN x))).num f = (nrm (ntR k (partsN x))).num f := fun f hn => by
    simp only [nrm]
    by_cases h3 : f = 3
    · rw [if_pos h3, if_pos h3, hb 3 rfl]
    · rw [if_neg h3, if_neg h3, hb f hn]
  refine ⟨?_, wr_same rfl fun f hf => ⟨fun hn => hb' f hn, fun _ => rfl⟩⟩
  unfold noteV noteC
  rw [hb' 10 rfl, hb' 12 rfl, hb' 13 rfl, hb' 5 rfl, hb' 6 rfl, hb' 2 rfl, hb' 3 rfl, hb' 4 rfl, hb' 7 rfl]
  rfl
/-- what is written is read, and is written as it was -/
theorem nt_again {x : Nt} (hc : Cashy x) (h : wrE x = 0) : wrE (nrm (ntP x.kind (partsN x))) = 0 ∧ wrS (nrm (ntP x.kind (partsN x))) = wrS x := by
  obtain ⟨h1, ho, h3, h4⟩ := wr_ok h
  have hs : wrE (nrm (ntP x.kind (partsN x))) = wrE x ∧ wrS (nrm (ntP x.kind (partsN x))) = wrS x := wr_same rfl fun f hf => by
    have hf' : f ∈ fieldsL x.kind := hf
    refine ⟨fun hn => ?_, fun hn => ?_⟩
    · have hb : (ntP x.kind (partsN x)).num f = x.num f := by
        have := (nt_back ho f hn).1
        rw [if_pos hf'] at this
        exact this
      simp only [nrm]
      by_cases h3 : f = 3
      · subst h3
        rw [if_pos rfl, hb]
        unfold cashN
        rcases hc with hc | hc <;> rw [hc] <;> rfl
      · rw [if_neg h3, hb]
    · show ptxt (rawP (partsN x) f) = x.txt f
      rw [raw_parts, if_pos hf']
      show textN x f = x.txt f
      unfold textN
      rw [hn]; rfl
  exact ⟨hs.1.trans h, hs.2⟩
/-- what the program reads -/
def rdP (s : ByteArray) : Nt := nrm (ntP (unpK s) (unpL s))
def rdR (s : ByteArray) : Nt := nrm (ntR (unpK s) (unpL s))
def rdB (s : ByteArray) : Bool := decide (wrE (rdP s) = 0 ∧ wrS (rdP s) = s)
def rdRB (s : ByteArray) : Bool := decide (unpE s = 0 ∧ wrE (rdR s) = 0 ∧ wrS (rdR s) = s)
theorem parts_of {y : Nt} {s : ByteArray} (h : wrE y = 0) (hs : wrS y = s) : unpK s = y.kind ∧ unpL s = partsN y ∧ unpE s = 0 := by
  obtain ⟨_, ho, hp, hS⟩ := wr_ok h
  have := unp_pack y.kind (partsN y) hp
  rw [← hS, hs] at this
  exact this
/-- BOTH READ ALIKE -/
theorem rd_same (s : ByteArray) : rdB s = rdRB s ∧ (rdB s = true → noteV (rdP s) = noteV (rdR s)) := by
  have hP : ∀ y : Nt, wrE y = 0 → wrS y = s → noteV (rdP s) = noteV (rdR s) ∧ wrE (rdP s) = wrE (rdR s) ∧ wrS (rdP s) = wrS (rdR s) := fun y h1 h2 => by
    obtain ⟨_, ho, hp, hS⟩ := wr_ok h1
    obtain ⟨hk, hl, _⟩ := parts_of h1 h2
    unfold rdP rdR
    rw [hl]
    exact nt_same ho _
  constructor
  · refine Bool.eq_iff_iff.2 ⟨fun h => ?_, fun h => ?_⟩
    · obtain ⟨h1, h2⟩ := of_decide_eq_true h
      obtain ⟨_, h3, h4⟩ := hP _ h1 h2
      exact decide_eq_true ⟨(parts_of h1 h2).2.2, h3 ▸ h1, h4 ▸ h2⟩
    · obtain ⟨_, h1, h2⟩ := of_decide_eq_true h
      obtain ⟨_, h3, h4⟩ := hP _ h1 h2
      exact decide_eq_true ⟨h3.trans h1, h4.trans h2⟩
  · intro h
    obtain ⟨h1, h2⟩ := of_decide_eq_true h
    exact (hP _ h1 h2).1
theorem rd_back {x : Nt} (hc : Cashy x) (h : wrE x = 0) : rdB (wrS x) = true ∧ wrE (rdP (wrS x)) = 0 ∧ wrS (rdP (wrS x)) = wrS x := by
  obtain ⟨hk, hl, _⟩ := parts_of h rfl
  have := nt_again hc h
  have e : rdP (wrS x) = nrm (ntP x.kind (partsN x)) := by unfold rdP; rw [hk, hl]
  unfold rdB
  rw [e]
  exact ⟨decide_eq_true this, this.1, this.2⟩
end Go.Proofs.YtkmmgeoialdmlaaDoor
