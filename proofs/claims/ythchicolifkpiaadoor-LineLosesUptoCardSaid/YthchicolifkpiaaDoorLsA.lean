/- Two ends of a noisy line, plain: what comes out is a beginning of what went in; frames as numbers; what an end is that hears one. -/
import Derived.Test.YthchicolifkpiaaDoorLosP
import Derived.Test.YthchicolifkpiaaDoorPTk
import Derived.Test.YthchicolifkpiaaDoorBends0
namespace Go.Proofs.YthchicolifkpiaaDoor
open Go.RowKit Go.Lib
set_option linter.unusedVariables false

theorem ex_join (s : ByteArray) (a b : Nat) (h : a ≤ b) (hb : b ≤ s.size) : s.extract 0 a ++ s.extract a b = s.extract 0 b := by
  rw [ByteArray.extract_append_extract]
  congr 1 <;> omega
theorem ex_all (s : ByteArray) : s.extract 0 s.size = s := ByteArray.extract_zero_size
theorem pcs_get (s : ByteArray) (j : Nat) (h : j < npc s) : (pcs s)[j]? = some (pcAt s j) := by simp [pcs, h]
theorem pcs_fold (s : ByteArray) (hs : s.size ≤ 4096) (l : List ByteArray) : ∀ j, j ≤ npc s →
    ((pcs s).take j).foldl inStep (l, ByteArray.empty) = if j < npc s then (l, s.extract 0 (32 * j)) else (l ++ [s], ByteArray.empty)
  | 0, _ => by
    rw [if_pos (npc_pos s)]
    simp
  | j + 1, h => by
    have ih := pcs_fold s hs l j (by omega)
    rw [if_pos (by omega)] at ih
    rw [List.take_add_one, List.foldl_append, ih, pcs_get s j (by omega), Option.toList_some, List.foldl_cons, List.foldl_nil, inStep, pcAt]
    have hn := npc_next s j
    have ha := npc_at (s := s) (k := j) (by omega)
    by_cases hx : 32 * j + 32 < s.size
    · rw [if_pos (by simpa using hx), if_pos (hn.2 hx), Nat.min_eq_left (by omega), ex_join s _ _ (by omega) (by omega), Nat.mul_add]
    · rw [if_neg (by simpa using hx), if_neg (fun k => hx (hn.1 k)), Nat.min_eq_right (by omega), ex_join s _ _ ha (Nat.le_refl _), ex_all, if_pos hs]
theorem fold_prefix : ∀ (G : List ByteArray), (∀ s ∈ G, s.size ≤ 4096) → ∀ (l : List ByteArray) (n : Nat), (∃ G1 G2, G = G1 ++ G2 ∧ (((piecesL G).take n).foldl inStep (l, ByteArray.empty)).1 = l ++ G1) ∧
    ((piecesL G).length ≤ n → ((piecesL G).take n).foldl inStep (l, ByteArray.empty) = (l ++ G, ByteArray.empty))
  | [], _, l, n => ⟨⟨[], [], rfl, by simp [piecesL]⟩, fun _ => by simp [piecesL]⟩
  | s :: r, h, l, n => by
    have hs := h s List.mem_cons_self
    have hlen := pcs_length s
    rw [piecesL_cons, List.take_append, List.foldl_append, hlen, List.length_append, hlen]
    rcases Nat.lt_or_ge n (npc s) with hn | hn
    · rw [pcs_fold s hs l n (by omega), if_pos hn, show n - npc s = 0 by omega]
      exact ⟨⟨[], s :: r, rfl, by simp⟩, fun k => by omega⟩
    · have e : (pcs s).take n = (pcs s).take (npc s) := by rw [List.take_of_length_le (by omega), List.take_of_length_le (by omega)]
      rw [e, pcs_fold s hs l (npc s) (Nat.le_refl _), if_neg (by omega)]
      obtain ⟨⟨G1, G2, e1, e2⟩, e3⟩ := fold_prefix r (fun x hx => h x (List.mem_cons_of_mem _ hx)) (l ++ [s]) (n - npc s)
      exact ⟨⟨s :: G1, G2, by rw [e1]; rfl, by rw [e2]; simp⟩, fun k => by rw [e3 (by omega)]; simp⟩
/-- what was got of n accepted pieces -/
def gotOf (G : List ByteArray) (n : Nat) : List ByteArray := (inL ((piecesL G).take n)).1
theorem got_prefix (G : List ByteArray) (h : ∀ s ∈ G, s.size ≤ 4096) (n : Nat) : ∃ G2, G = gotOf G n ++ G2 := by
  obtain ⟨⟨G1, G2, e1, e2⟩, _⟩ := fold_prefix G h [] n
  exact ⟨G2, by unfold gotOf inL; rw [e2]; exact e1⟩
theorem got_all (G : List ByteArray) (h : ∀ s ∈ G, s.size ≤ 4096) : gotOf G (piecesL G).length = G := by
  have := (fold_prefix G h [] (piecesL G).length).2 (Nat.le_refl _)
  unfold gotOf inL; rw [this]; rfl
theorem take_grown (G : List ByteArray) (x : ByteArray) (n : Nat) (h : n ≤ (piecesL G).length) : (piecesL (G ++ [x])).take n = (piecesL G).take n := by
  rw [piecesL_snoc, List.take_append_of_le_length h]
theorem get_grown (G : List ByteArray) (x : ByteArray) (q : Nat) (h : q < (piecesL G).length) : (piecesL (G ++ [x]))[q]? = (piecesL G)[q]? := by
  rw [piecesL_snoc, List.getElem?_append_left h]

/-- a piece is short -/
theorem piece_short (G : List ByteArray) (b : ByteArray × Bool) (h : b ∈ piecesL G) : b.1.size ≤ 32 := by
  obtain ⟨s, _, hb⟩ := List.mem_flatMap.1 h
  obtain ⟨j, _, rfl⟩ := List.mem_map.1 hb
  rw [pcAt, ByteArray.size_extract]
  omega

/-- a frame: piece q of G, if any, and the answer c -/
def frT (G : List ByteArray) (q : Option Nat) (c : Nat) : ByteArray :=
  match q with
  | some q => fText ((q % 2 : Nat) : Int) ((c % 2 : Nat) : Int) ((piecesL G).getD q (ByteArray.empty, false)).2 true ((piecesL G).getD q (ByteArray.empty, false)).1
  | none => fText 0 ((c % 2 : Nat) : Int) false false ByteArray.empty
theorem turnB_mod (q : Nat) : turnB ((q % 2 : Nat) : Int) = true := by rw [turnB_iff]; omega
theorem checkE_has (t n : Nat) (m : Bool) (b : ByteArray) (hb : b.size ≤ 32) : checkE ((t % 2 : Nat) : Int) ((n % 2 : Nat) : Int) m true b = 0 := by
  rw [checkE_rest m true (turnB_mod t) (turnB_mod n) (by omega), if_neg (by simp)]
theorem checkE_none (n : Nat) : checkE 0 ((n % 2 : Nat) : Int) false false ByteArray.empty = 0 := by
  rw [checkE_rest false false rfl (turnB_mod n) (by decide), if_neg (by rw [Lib.toList_data]; decide)]
/-- what a frame reads as -/
theorem frT_none (G : List ByteArray) (c : Nat) : unfE (frT G none c) = 0 ∧ uN (frT G none c) = ((c % 2 : Nat) : Int) ∧ uH (frT G none c) = false := by
  have he := checkE_none c
  have := roundtrip _ _ _ _ _ he
  rw [frT, fText_ok he]
  exact ⟨this.1, this.2.2.1, this.2.2.2.2.1⟩
theorem frT_some (G : List ByteArray) (q c : Nat) (b : ByteArray × Bool) (h : (piecesL G)[q]? = some b) :
    unfE (frT G (some q) c) = 0 ∧ uT (frT G (some q) c) = ((q % 2 : Nat) : Int) ∧ uN (frT G (some q) c) = ((c % 2 : Nat) : Int) ∧ uM (frT G (some q) c) = b.2 ∧ uH (frT G (some q) c) = true ∧ uB (frT G (some q) c) = b.1 := by
  have hb := piece_short G b (List.mem_of_getElem? h)
  have he := checkE_has q c b.2 b.1 hb
  have hd : (piecesL G).getD q (ByteArray.empty, false) = b := by rw [List.getD_eq_getElem?_getD, h]; rfl
  rw [frT, hd, fText_ok he]
  exact roundtrip _ _ _ _ _ he
theorem frT_grown (G : List ByteArray) (x : ByteArray) (q : Option Nat) (c : Nat) (h : ∀ p, q = some p → p < (piecesL G).length) : frT (G ++ [x]) q c = frT G q c := by
  cases q with
  | none => rfl
  | some p => rw [frT, frT, List.getD_eq_getElem?_getD, List.getD_eq_getElem?_getD, get_grown G x p (h p rfl)]
theorem frT_size (G : List ByteArray) (q : Option Nat) (c : Nat) (h : ∀ p, q = some p → p < (piecesL G).length) : (frT G q c).size ≤ 36 := by
  cases q with
  | none => rw [frT, fText_ok (checkE_none c), frameS_size]; decide
  | some p =>
    obtain ⟨b, hb⟩ : ∃ b, (piecesL G)[p]? = some b := ⟨_, List.getElem?_eq_getElem (h p rfl)⟩
    have hz := piece_short G b (List.mem_of_getElem? hb)
    have hd : (piecesL G).getD p (ByteArray.empty, false) = b := by rw [List.getD_eq_getElem?_getD, hb]; rfl
    rw [frT, hd, fText_ok (checkE_has p c b.2 b.1 hz), frameS_size]; omega

/-- an end: its numbers x, all that was given to it (G) and to the other one (H) -/
structure EndA (G H : List ByteArray) (x : Nd) (told : Nat) (T : List ByteArray) (k : Nat) (turn pause aw : Int) (owed : Bool) (part : ByteArray) (lost : Bool) (got : List ByteArray) : Prop where
  out : OutRel G x.a T k
  inn : InRel ((piecesL H).take x.m) told part lost got
  tu : turn = ((x.a % 2 : Nat) : Int)
  awd : aw = ((x.m % 2 : Nat) : Int)
  pa : pause = (x.p : Int)
  ow : owed = x.o
  len : x.L = (piecesL G).length
theorem EndA.out_iff {G H : List ByteArray} {x : Nd} {told : Nat} {T : List ByteArray} {k : Nat} {turn pause aw : Int} {owed : Bool} {part : ByteArray} {lost : Bool} {got : List ByteArray} (h : EndA G H x told T k turn pause aw owed part lost got) : T ≠ [] ↔ x.a < x.L := by
  rw [h.len]; exact (out_lt h.out).symm
theorem EndA.due {G H : List ByteArray} {x : Nd} {told : Nat} {T : List ByteArray} {k : Nat} {turn pause aw : Int} {owed : Bool} {part : ByteArray} {lost : Bool} {got : List ByteArray} (h : EndA G H x told T k turn pause aw owed part lost got) : dueP T pause = x.due := by
  have h1 := h.out_iff
  have h2 := h.pa
  rw [dueP, Nd.due, decide_eq_decide.2 h1, h2]
  congr 1
  simp
/-- what it sends -/
theorem EndA.sent {G H : List ByteArray} {x : Nd} {told : Nat} {T : List ByteArray} {k : Nat} {turn pause aw : Int} {owed : Bool} {part : ByteArray} {lost : Bool} {got : List ByteArray} (h : EndA G H x told T k turn pause aw owed part lost got) :
    sentP T k turn aw x.due = frT G (if x.due then some x.a else none) x.m := by
  cases hd : x.due with
  | false => rw [sentP, if_neg (by decide), if_neg (by decide), frT, h.awd]
  | true =>
    have hl : x.a < x.L := by
      rw [Nd.due, Bool.and_eq_true] at hd
      exact of_decide_eq_true hd.1
    obtain ⟨s, r, rfl⟩ := List.exists_cons_of_ne_nil (h.out_iff.2 hl)
    have hp := (out_some h.out).2.1
    have he : (piecesL G).getD x.a (ByteArray.empty, false) = pcAt s k := by rw [List.getD_eq_getElem?_getD, hp]; rfl
    rw [sentP, if_pos rfl, if_pos rfl, frT, he, h.awd, h.tu]
    rfl
theorem EndA.take {G H : List ByteArray} {x : Nd} {told : Nat} {T : List ByteArray} {k : Nat} {turn pause aw : Int} {owed : Bool} {part : ByteArray} {lost : Bool} {got : List ByteArray} (h : EndA G H x told T k turn pause aw owed part lost got) :
    EndA G H (halfX x) told T k turn (if dueP T pause then 4 else pause) aw false part lost got := by
  have hx : ∀ b, (if b = true then ({ x with p := 4, o := false } : Nd) else { x with o := false }).a = x.a ∧ (if b = true then ({ x with p := 4, o := false } : Nd) else { x with o := false }).m = x.m ∧ (if b = true then ({ x with p := 4, o := false } : Nd) else { x with o := false }).L = x.L ∧ (if b = true then ({ x with p := 4, o := false } : Nd) else { x with o := false }).o = false ∧ (if b = true then ({ x with p := 4, o := false } : Nd) else { x with o := false }).p = if b = true then 4 else x.p := by
    intro b; cases b <;> exact ⟨rfl, rfl, rfl, rfl, rfl⟩
  obtain ⟨e1, e2, e3, e4, e5⟩ := hx x.due
  rw [h.due]
  exact ⟨by rw [halfX, e1]; exact h.out, by rw [halfX, e2]; exact h.inn, by rw [halfX, e1]; exact h.tu, by rw [halfX, e2]; exact h.awd, by rw [halfX, e5, h.pa]; split <;> rfl, by rw [halfX, e4], by rw [halfX, e3]; exact h.len⟩
theorem EndA.tick {G H : List ByteArray} {x : Nd} {told : Nat} {T : List ByteArray} {k : Nat} {turn pause aw : Int} {owed : Bool} {part : ByteArray} {lost : Bool} {got : List ByteArray} (h : EndA G H x told T k turn pause aw owed part lost got) :
    EndA G H x.tick told T k turn (if 0 < pause then pause - 1 else pause) aw owed part lost got :=
  ⟨h.out, h.inn, h.tu, h.awd, by
    have := h.pa
    simp only [Nd.tick]
    split <;> omega, h.ow, h.len⟩
/-- a text more is given to it -/
def Nd.more (x : Nd) (s : ByteArray) : Nd := { x with L := x.L + npc s }
theorem EndA.give {G H : List ByteArray} {x : Nd} {told : Nat} {T : List ByteArray} {k : Nat} {turn pause aw : Int} {owed : Bool} {part : ByteArray} {lost : Bool} {got : List ByteArray} (h : EndA G H x told T k turn pause aw owed part lost got) (s : ByteArray) :
    EndA (G ++ [s]) H (x.more s) told (T ++ [s]) k turn pause aw owed part lost got :=
  ⟨out_give h.out s, h.inn, h.tu, h.awd, h.pa, h.ow, by simp only [Nd.more]; rw [piecesL_snoc, List.length_append, pcs_length, h.len]⟩
/-- a text more is given to the other one -/
theorem EndA.other {G H : List ByteArray} {x : Nd} {told : Nat} {T : List ByteArray} {k : Nat} {turn pause aw : Int} {owed : Bool} {part : ByteArray} {lost : Bool} {got : List ByteArray} (h : EndA G H x told T k turn pause aw owed part lost got) (s : ByteArray) (hm : x.m ≤ (piecesL H).length) :
    EndA G (H ++ [s]) x told T k turn pause aw owed part lost got :=
  ⟨h.out, by rw [take_grown H s x.m hm]; exact h.inn, h.tu, h.awd, h.pa, h.ow, h.len⟩
theorem EndA.gots {G H : List ByteArray} {x : Nd} {told : Nat} {T : List ByteArray} {k : Nat} {turn pause aw : Int} {owed : Bool} {part : ByteArray} {lost : Bool} {got : List ByteArray} (h : EndA G H x told T k turn pause aw owed part lost got) :
    EndA G H x (gotOf H x.m).length T k turn pause aw owed part lost [] ∧ (gotOf H x.m).take told ++ got = gotOf H x.m :=
  ⟨⟨h.out, in_got h.inn, h.tu, h.awd, h.pa, h.ow, h.len⟩, by
    have := h.inn.2.2.1
    rw [this]
    exact List.take_append_drop told _⟩
/-- an end that heard a frame -/
def hearN (x : Nd) (q : Option Nat) (c : Nat) : Nd := match q with | none => x.ack c | some p => (x.ack c).data p
theorem EndA.ack {G H : List ByteArray} {x : Nd} {told : Nat} {T : List ByteArray} {k : Nat} {turn pause aw : Int} {owed : Bool} {part : ByteArray} {lost : Bool} {got : List ByteArray} (h : EndA G H x told T k turn pause aw owed part lost got) (s : ByteArray) (c : Nat) (hs : uN s = ((c % 2 : Nat) : Int)) (h1 : x.a ≤ c) (h2 : c ≤ x.a + 1) :
    EndA G H (x.ack c) told (pT T k (hitP T turn s)) (pK T k (hitP T turn s)) (if hitP T turn s then 1 - turn else turn) (if hitP T turn s then 0 else pause) aw owed part lost got := by
  have hi := h.out_iff
  have htu := h.tu
  have hhit : hitP T turn s = decide (x.a < x.L ∧ c ≠ x.a) := by
    rw [hitP, hs, htu, ← Bool.decide_and, decide_eq_decide, hi]
    constructor
    · rintro ⟨a, b⟩; exact ⟨a, fun e => b (by rw [e])⟩
    · rintro ⟨a, b⟩; exact ⟨a, by omega⟩
  rw [hhit]
  by_cases hb : x.a < x.L ∧ c ≠ x.a
  · rw [decide_eq_true hb, Nd.ack, if_pos hb]
    obtain ⟨y, r, rfl⟩ := List.exists_cons_of_ne_nil (hi.2 hb.1)
    obtain ⟨o1, o2⟩ := out_arrive h.out
    have hrel : OutRel G (x.a + 1) (arrT y r k) (arrK y k) := by
      unfold arrT arrK
      by_cases hx : 32 * k + 32 < y.size
      · rw [if_pos hx, if_pos hx]; exact o1 hx
      · rw [if_neg hx, if_neg hx]; exact o2 hx
    exact ⟨hrel, h.inn, by simp only [if_true]; omega, h.awd, rfl, h.ow, h.len⟩
  · rw [decide_eq_false hb, Nd.ack, if_neg hb]
    exact h
theorem EndA.data {G H : List ByteArray} {x : Nd} {told : Nat} {T : List ByteArray} {k : Nat} {turn pause aw : Int} {owed : Bool} {part : ByteArray} {lost : Bool} {got : List ByteArray} (h : EndA G H x told T k turn pause aw owed part lost got) (s : ByteArray) (q : Nat) (b : ByteArray × Bool) (hq : (piecesL H)[q]? = some b)
    (hT : uT s = ((q % 2 : Nat) : Int)) (hM : uM s = b.2) (hB : uB s = b.1) (h1 : x.m ≤ q + 1) (h2 : q ≤ x.m) :
    EndA G H (x.data q) told T k turn pause (if decide (uT s = aw) then 1 - aw else aw) true (if decide (uT s = aw) then accP part lost (uM s) (uB s) else part) (if decide (uT s = aw) then accL part lost (uM s) (uB s) else lost) (if decide (uT s = aw) then accG part lost (uM s) got (uB s) else got) := by
  have ha := h.awd
  have e : decide (uT s = aw) = decide (q = x.m) := by rw [hT, ha, decide_eq_decide]; omega
  rw [e]
  by_cases hb : q = x.m
  · rw [decide_eq_true hb]
    subst hb
    have hx : (x.data x.m).m = x.m + 1 := by simp [Nd.data]
    refine ⟨h.out, ?_, h.tu, by rw [hx]; simp only [if_true]; omega, h.pa, rfl, h.len⟩
    rw [hx, List.take_add_one, hq, hM, hB]
    obtain ⟨b1, b2⟩ := b
    simp only [if_true, Option.toList_some]
    unfold accP accL accG
    cases b2 with
    | true => exact in_more h.inn b1
    | false => exact in_last h.inn b1
  · rw [decide_eq_false hb]
    have hx : (x.data q).m = x.m := by simp [Nd.data, hb]
    exact ⟨h.out, by rw [hx]; exact h.inn, h.tu, by rw [hx]; exact ha, h.pa, rfl, h.len⟩
/-- all of hearing -/
theorem EndA.hear {G H : List ByteArray} {x : Nd} {told : Nat} {T : List ByteArray} {k : Nat} {turn pause aw : Int} {owed : Bool} {part : ByteArray} {lost : Bool} {got : List ByteArray} (h : EndA G H x told T k turn pause aw owed part lost got) (q : Option Nat) (c : Nat) (s : ByteArray) (hs : s = frT H q c) (h1 : x.a ≤ c) (h2 : c ≤ x.a + 1)
    (hq : ∀ p, q = some p → p < (piecesL H).length ∧ x.m ≤ p + 1 ∧ p ≤ x.m) :
    unfE s = 0 ∧ EndA G H (hearN x q c) told (pT T k (hitP T turn s)) (pK T k (hitP T turn s)) (if hitP T turn s then 1 - turn else turn) (if hitP T turn s then 0 else pause)
        (if uH s && decide (uT s = aw) then 1 - aw else aw) (owed || uH s) (if uH s && decide (uT s = aw) then accP part lost (uM s) (uB s) else part) (if uH s && decide (uT s = aw) then accL part lost (uM s) (uB s) else lost) (if uH s && decide (uT s = aw) then accG part lost (uM s) got (uB s) else got) := by
  cases q with
  | none =>
    obtain ⟨r1, r2, r3⟩ := frT_none H c
    rw [← hs] at r1 r2 r3
    have ho : (owed || uH s) = owed := by rw [r3, Bool.or_false]
    have hf : (uH s && decide (uT s = aw)) = false := by rw [r3]; rfl
    rw [ho, hf]
    exact ⟨r1, h.ack s c r2 h1 h2⟩
  | some p =>
    obtain ⟨q1, q2, q3⟩ := hq p rfl
    obtain ⟨b, hb⟩ : ∃ b, (piecesL H)[p]? = some b := ⟨_, List.getElem?_eq_getElem q1⟩
    obtain ⟨r1, r2, r3, r4, r5, r6⟩ := frT_some H p c b hb
    rw [← hs] at r1 r2 r3 r4 r5 r6
    have ho : (owed || uH s) = true := by rw [r5, Bool.or_true]
    have hf : (uH s && decide (uT s = aw)) = decide (uT s = aw) := by rw [r5]; rfl
    rw [ho, hf]
    have hk := h.ack s c r3 h1 h2
    have hm : (x.ack c).m = x.m := by rw [Nd.ack]; split <;> rfl
    exact ⟨r1, hk.data s p b hb r2 r4 r6 (by rw [hm]; exact q2) (by rw [hm]; exact q3)⟩
end Go.Proofs.YthchicolifkpiaaDoor
namespace Go.Proofs.YthchicolifkpiaaDoor
set_option linter.unusedVariables false

abbrev Fr := Option Nat × Nat
/-- two ends x, y; wx: what is on its way from x to y, wy: from y to x -/
structure Two (x y : Nd) (wx wy : List Fr) : Prop where
  dx : Dir x.L x.a y.m (wx.filterMap (·.1)) (wy.map (·.2))
  dy : Dir y.L y.a x.m (wy.filterMap (·.1)) (wx.map (·.2))
  px : x.p ≤ 4
  py : y.p ≤ 4
theorem Two.symm {x y : Nd} {wx wy : List Fr} (h : Two x y wx wy) : Two y x wy wx := ⟨h.dy, h.dx, h.py, h.px⟩
theorem Two.new : Two ⟨0, 0, 0, 0, false⟩ ⟨0, 0, 0, 0, false⟩ [] [] := ⟨Dir.new, Dir.new, by decide, by decide⟩
theorem Two.give {x y : Nd} {wx wy : List Fr} (h : Two x y wx wy) (s : ByteArray) : Two (x.more s) y wx wy :=
  ⟨h.dx.give (Nat.le_add_right _ _), h.dy, h.px, h.py⟩
theorem Two.tick {x y : Nd} {wx wy : List Fr} (h : Two x y wx wy) : Two x.tick y wx wy :=
  ⟨h.dx, h.dy, by have := h.px; simp only [Nd.tick]; omega, h.py⟩
theorem Two.lose {x y : Nd} {f : Fr} {wx wy : List Fr} (h : Two x y (f :: wx) wy) : Two x y wx wy := by
  obtain ⟨q, c⟩ := f
  refine ⟨?_, Dir.loseC (c := c) h.dy, h.px, h.py⟩
  cases q with
  | none => exact h.dx
  | some p => exact Dir.loseP (p := p) h.dx
theorem Two.twice {x y : Nd} {f : Fr} {wx wy : List Fr} (h : Two x y (f :: wx) wy) : Two x y (f :: f :: wx) wy := by
  obtain ⟨q, c⟩ := f
  refine ⟨?_, Dir.twiceC (c := c) h.dy, h.px, h.py⟩
  cases q with
  | none => exact h.dx
  | some p => exact Dir.twiceP (p := p) h.dx
theorem Two.clear {x y : Nd} {wx wy : List Fr} (h : Two x y wx wy) : Two x y [] wy := ⟨h.dx.nilP, h.dy.nilC, h.px, h.py⟩
theorem Two.still {x y : Nd} (h : Two x y [] []) : NI x y := ⟨h.dx.an, h.dx.na, h.dx.nL, h.dy.an, h.dy.na, h.dy.nL, h.px, h.py⟩
/-- what x sends -/
def sentN (x : Nd) : List Fr := if x.due then [(some x.a, x.m)] else if x.o then [(none, x.m)] else []
theorem halfX_eq (x : Nd) : (halfX x).a = x.a ∧ (halfX x).m = x.m ∧ (halfX x).L = x.L ∧ (x.p ≤ 4 → (halfX x).p ≤ 4) := by
  unfold halfX
  split
  · exact ⟨rfl, rfl, rfl, fun _ => Nat.le_refl _⟩
  · exact ⟨rfl, rfl, rfl, fun h => h⟩
theorem Two.send {x y : Nd} {wx wy : List Fr} (h : Two x y wx wy) : Two (halfX x) y (wx ++ sentN x) wy := by
  obtain ⟨e1, e2, e3, e4⟩ := halfX_eq x
  have hk : Two x y (wx ++ sentN x) wy := by
    unfold sentN
    split
    · rename_i hd
      have hl : x.a < x.L := by
        rw [Nd.due, Bool.and_eq_true] at hd
        exact of_decide_eq_true hd.1
      refine ⟨?_, ?_, h.px, h.py⟩
      · rw [List.filterMap_append]; exact h.dx.send hl
      · rw [List.map_append]; exact h.dy.answer
    · split
      · refine ⟨?_, ?_, h.px, h.py⟩
        · rw [List.filterMap_append]
          have := h.dx
          simpa using this
        · rw [List.map_append]; exact h.dy.answer
      · rw [List.append_nil]; exact h
  exact ⟨by rw [e1, e3]; exact hk.dx, by rw [e2]; exact hk.dy, e4 hk.px, hk.py⟩
theorem ack_facts (y : Nd) (c : Nat) : (y.ack c).m = y.m ∧ (y.ack c).L = y.L ∧ (y.p ≤ 4 → (y.ack c).p ≤ 4) := by
  unfold Nd.ack
  split
  · exact ⟨rfl, rfl, fun _ => Nat.zero_le _⟩
  · exact ⟨rfl, rfl, fun h => h⟩
theorem Two.hear {x y : Nd} {q : Option Nat} {c : Nat} {wx wy : List Fr} (h : Two x y ((q, c) :: wx) wy) :
    Two x (hearN y q c) wx wy ∧ y.a ≤ c ∧ c ≤ y.a + 1 ∧ (∀ p, q = some p → p < x.L ∧ y.m ≤ p + 1 ∧ p ≤ y.m) := by
  have hdy : Dir y.L y.a x.m (wy.filterMap (·.1)) (c :: wx.map (·.2)) := h.dy
  obtain ⟨c1, c2, c3⟩ := hdy.hearC
  have hc := hdy.hc c List.mem_cons_self
  have hna := hdy.na
  obtain ⟨k1, k2, k3⟩ := ack_facts y c
  have hka : Dir (y.ack c).L (y.ack c).a x.m (wy.filterMap (·.1)) (wx.map (·.2)) := by
    rw [k2, Nd.ack]
    by_cases hb : y.a < y.L ∧ c ≠ y.a
    · rw [if_pos hb]; exact (c2 (by omega)).2
    · rw [if_neg hb]
      refine c3 (fun e => hb ⟨(c2 e).1, by omega⟩)
  refine ⟨?_, hc.1, by omega, fun p hp => ?_⟩
  · cases q with
    | none => exact ⟨by rw [hearN, k1]; exact h.dx, hka, h.px, k3 h.py⟩
    | some p =>
      have hdx : Dir x.L x.a y.m (p :: wx.filterMap (·.1)) (wy.map (·.2)) := h.dx
      obtain ⟨p1, p2, p3⟩ := hdx.hearP
      refine ⟨?_, hka, h.px, k3 h.py⟩
      rw [hearN]
      simp only [Nd.data]
      rw [k1]
      by_cases hb : p = y.m
      · rw [if_pos hb]; exact p2 hb
      · rw [if_neg hb]; exact p3 hb
  · subst hp
    have hdx : Dir x.L x.a y.m (p :: wx.filterMap (·.1)) (wy.map (·.2)) := h.dx
    have hp1 := hdx.hp p List.mem_cons_self
    have := hdx.an
    omega
/-- half a round -/
theorem half_sent (x y : Nd) : halfY x y = (sentN x).foldl (fun z f => hearN z f.1 f.2) y := by
  unfold halfY sentN
  split
  · rfl
  · split <;> rfl
theorem npc_len (s : ByteArray) : npc s ≤ s.size / 32 + 1 := by unfold npc; split <;> omega
end Go.Proofs.YthchicolifkpiaaDoor
