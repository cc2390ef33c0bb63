/- Two ends of a noisy line, plain: one way (pieces that were given, that arrived, that were accepted; what is on its way), and that over a line that does as it should all arrives. -/
import Derived.Test.YthchicolifkpiaaDoorEndsP
namespace Go.Proofs.YthchicolifkpiaaDoor
set_option linter.unusedVariables false

/-- one way: of L pieces a arrived as far as the sender knows, n were accepted; ps: the numbers of the pieces on their way, cs: what the answers on their way tell of n -/
structure Dir (L a n : Nat) (ps cs : List Nat) : Prop where
  an : a ≤ n
  na : n ≤ a + 1
  nL : n ≤ L
  sp : ps.Pairwise (· ≤ ·)
  hp : ∀ p ∈ ps, n ≤ p + 1 ∧ p ≤ a ∧ p < L
  sc : cs.Pairwise (· ≤ ·)
  hc : ∀ c ∈ cs, a ≤ c ∧ c ≤ n

theorem Dir.new : Dir 0 0 0 [] [] := ⟨Nat.le_refl _, by omega, Nat.le_refl _, .nil, by simp, .nil, by simp⟩
theorem Dir.give {L a n : Nat} {ps cs : List Nat} (h : Dir L a n ps cs) {L' : Nat} (hl : L ≤ L') : Dir L' a n ps cs :=
  ⟨h.an, h.na, by have := h.nL; omega, h.sp, fun p hp => by have := h.hp p hp; omega, h.sc, h.hc⟩
/-- a piece goes out -/
theorem Dir.send {L a n : Nat} {ps cs : List Nat} (h : Dir L a n ps cs) (hl : a < L) : Dir L a n (ps ++ [a]) cs :=
  ⟨h.an, h.na, h.nL, List.pairwise_append.2 ⟨h.sp, List.pairwise_singleton _ _, fun p hp q hq => by rw [List.mem_singleton.1 hq]; exact (h.hp p hp).2.1⟩,
    fun p hp => by
      rcases List.mem_append.1 hp with hp | hp
      · exact h.hp p hp
      · have := h.na; rw [List.mem_singleton.1 hp]; omega, h.sc, h.hc⟩
/-- an answer goes out -/
theorem Dir.answer {L a n : Nat} {ps cs : List Nat} (h : Dir L a n ps cs) : Dir L a n ps (cs ++ [n]) :=
  ⟨h.an, h.na, h.nL, h.sp, h.hp, List.pairwise_append.2 ⟨h.sc, List.pairwise_singleton _ _, fun p hp q hq => by rw [List.mem_singleton.1 hq]; exact (h.hc p hp).2⟩,
    fun p hp => by
      rcases List.mem_append.1 hp with hp | hp
      · exact h.hc p hp
      · have := h.an; rw [List.mem_singleton.1 hp]; omega⟩
theorem Dir.loseP {L a n p : Nat} {ps cs : List Nat} (h : Dir L a n (p :: ps) cs) : Dir L a n ps cs :=
  ⟨h.an, h.na, h.nL, (List.pairwise_cons.1 h.sp).2, fun q hq => h.hp q (List.mem_cons_of_mem _ hq), h.sc, h.hc⟩
theorem Dir.loseC {L a n c : Nat} {ps cs : List Nat} (h : Dir L a n ps (c :: cs)) : Dir L a n ps cs :=
  ⟨h.an, h.na, h.nL, h.sp, h.hp, (List.pairwise_cons.1 h.sc).2, fun q hq => h.hc q (List.mem_cons_of_mem _ hq)⟩
theorem Dir.nilP {L a n : Nat} {ps cs : List Nat} (h : Dir L a n ps cs) : Dir L a n [] cs := ⟨h.an, h.na, h.nL, .nil, by simp, h.sc, h.hc⟩
theorem Dir.nilC {L a n : Nat} {ps cs : List Nat} (h : Dir L a n ps cs) : Dir L a n ps [] := ⟨h.an, h.na, h.nL, h.sp, h.hp, .nil, by simp⟩
theorem Dir.twiceP {L a n p : Nat} {ps cs : List Nat} (h : Dir L a n (p :: ps) cs) : Dir L a n (p :: p :: ps) cs :=
  ⟨h.an, h.na, h.nL, List.pairwise_cons.2 ⟨fun q hq => by
      rcases List.mem_cons.1 hq with rfl | hq
      · exact Nat.le_refl _
      · exact (List.pairwise_cons.1 h.sp).1 q hq, h.sp⟩, fun q hq => by
      rcases List.mem_cons.1 hq with rfl | hq
      · exact h.hp q List.mem_cons_self
      · exact h.hp q hq, h.sc, h.hc⟩
theorem Dir.twiceC {L a n c : Nat} {ps cs : List Nat} (h : Dir L a n ps (c :: cs)) : Dir L a n ps (c :: c :: cs) :=
  ⟨h.an, h.na, h.nL, h.sp, h.hp, List.pairwise_cons.2 ⟨fun q hq => by
      rcases List.mem_cons.1 hq with rfl | hq
      · exact Nat.le_refl _
      · exact (List.pairwise_cons.1 h.sc).1 q hq, h.sc⟩, fun q hq => by
      rcases List.mem_cons.1 hq with rfl | hq
      · exact h.hc q List.mem_cons_self
      · exact h.hc q hq⟩
/-- a piece is heard: it is the awaited one exactly if its turn is -/
theorem Dir.hearP {L a n p : Nat} {ps cs : List Nat} (h : Dir L a n (p :: ps) cs) :
    (p % 2 = n % 2 ↔ p = n) ∧ (p = n → Dir L a (n + 1) ps cs) ∧ (p ≠ n → Dir L a n ps cs) := by
  have h1 := h.hp p List.mem_cons_self
  have h2 := h.an
  have h3 := h.na
  refine ⟨by omega, fun e => ?_, fun _ => h.loseP⟩
  have hs := List.pairwise_cons.1 h.sp
  exact ⟨by omega, by omega, by omega, hs.2, fun q hq => by have := hs.1 q hq; have := h.hp q (List.mem_cons_of_mem _ hq); omega, h.sc, fun c hc => by have := h.hc c hc; omega⟩
/-- an answer is heard -/
theorem Dir.hearC {L a n c : Nat} {ps cs : List Nat} (h : Dir L a n ps (c :: cs)) :
    (c % 2 ≠ a % 2 ↔ c = a + 1) ∧ (c = a + 1 → a < L ∧ Dir L (a + 1) n ps cs) ∧ (c ≠ a + 1 → Dir L a n ps cs) := by
  have h1 := h.hc c List.mem_cons_self
  have h2 := h.an
  have h3 := h.na
  have h4 := h.nL
  refine ⟨by omega, fun e => ⟨by omega, ?_⟩, fun _ => h.loseC⟩
  have hs := List.pairwise_cons.1 h.sc
  exact ⟨by omega, by omega, by omega, h.sp, fun q hq => by have := h.hp q hq; omega, hs.2, fun q hq => by have := hs.1 q hq; have := h.hc q (List.mem_cons_of_mem _ hq); omega⟩

/-- an end in numbers: its pieces that arrived, its pause, all its pieces, those that it accepted, whether it owes an answer -/
structure Nd where
  a : Nat
  p : Nat
  L : Nat
  m : Nat
  o : Bool
def Nd.due (x : Nd) : Bool := decide (x.a < x.L) && decide (x.p = 0)
def Nd.ack (y : Nd) (c : Nat) : Nd := if y.a < y.L ∧ c ≠ y.a then { y with a := y.a + 1, p := 0 } else y
def Nd.data (y : Nd) (q : Nat) : Nd := { y with o := true, m := if q = y.m then y.m + 1 else y.m }
def Nd.tick (x : Nd) : Nd := { x with p := x.p - 1 }
def halfX (x : Nd) : Nd := if x.due then { x with p := 4, o := false } else { x with o := false }
def halfY (x y : Nd) : Nd := if x.due then (y.ack x.m).data x.a else if x.o then y.ack x.m else y
/-- two ends, and nothing on its way -/
structure NI (x y : Nd) : Prop where
  xa : x.a ≤ y.m
  xm : y.m ≤ x.a + 1
  xl : y.m ≤ x.L
  ya : y.a ≤ x.m
  ym : x.m ≤ y.a + 1
  yl : x.m ≤ y.L
  xp : x.p ≤ 4
  yp : y.p ≤ 4
theorem NI.symm {x y : Nd} (h : NI x y) : NI y x := ⟨h.ya, h.ym, h.yl, h.xa, h.xm, h.xl, h.yp, h.xp⟩
theorem NI.tick {x y : Nd} (h : NI x y) : NI x.tick y.tick := by
  obtain ⟨h1, h2, h3, h4, h5, h6, h7, h8⟩ := h
  exact ⟨h1, h2, h3, h4, h5, h6, by simp only [Nd.tick]; omega, by simp only [Nd.tick]; omega⟩
theorem NI.half {x y : Nd} (h : NI x y) : NI (halfX x) (halfY x y) := by
  obtain ⟨xa, xp, xL, xm, xo⟩ := x
  obtain ⟨ya, yp, yL, ym, yo⟩ := y
  obtain ⟨h1, h2, h3, h4, h5, h6, h7, h8⟩ := h
  simp only at h1 h2 h3 h4 h5 h6 h7 h8
  by_cases hd : xa < xL ∧ xp = 0 <;> by_cases hc : ya < yL ∧ xm ≠ ya <;> by_cases hq : xa = ym <;> cases xo <;>
    (constructor <;> simp [halfX, halfY, Nd.due, Nd.ack, Nd.data, hd, hc, hq] <;> (try split) <;> (try simp only) <;> omega)
/-- a whole round -/
def roundX (x y : Nd) : Nd := (halfY (halfY x y) (halfX x)).tick
def roundY (x y : Nd) : Nd := (halfX (halfY x y)).tick
theorem NI.round {x y : Nd} (h : NI x y) : NI (roundX x y) (roundY x y) := (h.half.symm.half.symm).tick
theorem round_L (x y : Nd) : (roundX x y).L = x.L ∧ (roundY x y).L = y.L := by
  obtain ⟨xa, xp, xL, xm, xo⟩ := x
  obtain ⟨ya, yp, yL, ym, yo⟩ := y
  constructor
  · simp only [roundX, Nd.tick, halfY, halfX, Nd.ack, Nd.data]
    repeat' (first | rfl | split)
  · simp only [roundY, Nd.tick, halfY, halfX, Nd.ack, Nd.data]
    repeat' (first | rfl | split)
/-- how far the first end is from its goal: each round it falls -/
def msX (x : Nd) : Nat := 5 * (x.L - x.a) + x.p
def fastY (x y : Nd) : Bool := x.o && decide (x.m = y.a + 1)
def msY (x y : Nd) : Nat := 6 * (y.L - y.a) + if fastY x y then 0 else y.p + 1
theorem round_x {x y : Nd} (h : NI x y) (hd : x.a < x.L) : msX (roundX x y) < msX x := by
  obtain ⟨xa, xp, xL, xm, xo⟩ := x
  obtain ⟨ya, yp, yL, ym, yo⟩ := y
  obtain ⟨h1, h2, h3, h4, h5, h6, h7, h8⟩ := h
  simp only at h1 h2 h3 h4 h5 h6 h7 h8 hd
  by_cases hp : xp = 0
  · -- due: it goes out, it is accepted, the answer comes
    have e1 : (Nd.mk xa xp xL xm xo).due = true := by simp [Nd.due, hd, hp]
    have e2 : halfX (Nd.mk xa xp xL xm xo) = Nd.mk xa 4 xL xm false := by simp [halfX, e1]
    have e3 : ∃ u v, halfY (Nd.mk xa xp xL xm xo) (Nd.mk ya yp yL ym yo) = Nd.mk u v yL (xa + 1) true := by
      rw [halfY, if_pos e1, Nd.ack]
      have hm : (if xa = ym then ym + 1 else ym) = xa + 1 := by split <;> omega
      split
      · exact ⟨ya + 1, 0, by simp only [Nd.data, hm]⟩
      · exact ⟨ya, yp, by simp only [Nd.data, hm]⟩
    obtain ⟨u, v, e3⟩ := e3
    have e4 : ∃ q r, halfY (Nd.mk u v yL (xa + 1) true) (Nd.mk xa 4 xL xm false) = Nd.mk (xa + 1) 0 xL q r := by
      have ha : (Nd.mk xa 4 xL xm false).ack (xa + 1) = Nd.mk (xa + 1) 0 xL xm false := by simp [Nd.ack, hd]
      rw [halfY]
      split
      · exact ⟨_, _, by rw [ha]; rfl⟩
      · exact ⟨_, _, by rw [if_pos rfl, ha]⟩
    obtain ⟨q, r, e4⟩ := e4
    rw [roundX, e3, e2, e4]
    simp only [msX, Nd.tick]
    omega
  · have e1 : (Nd.mk xa xp xL xm xo).due = false := by simp [Nd.due, hp]
    have e2 : halfX (Nd.mk xa xp xL xm xo) = Nd.mk xa xp xL xm false := by simp [halfX, e1]
    have e4 : ∀ z : Nd, (∃ q r, halfY z (Nd.mk xa xp xL xm false) = Nd.mk xa xp xL q r) ∨ (∃ q r, halfY z (Nd.mk xa xp xL xm false) = Nd.mk (xa + 1) 0 xL q r) := by
      intro z
      have ha : (Nd.mk xa xp xL xm false).ack z.m = Nd.mk xa xp xL xm false ∨ (Nd.mk xa xp xL xm false).ack z.m = Nd.mk (xa + 1) 0 xL xm false := by
        rw [Nd.ack]; split
        · exact .inr rfl
        · exact .inl rfl
      rw [halfY]
      split
      · rcases ha with ha | ha
        · exact .inl ⟨_, _, by rw [ha]; rfl⟩
        · exact .inr ⟨_, _, by rw [ha]; rfl⟩
      · split
        · rcases ha with ha | ha
          · exact .inl ⟨_, _, ha⟩
          · exact .inr ⟨_, _, ha⟩
        · exact .inl ⟨_, _, rfl⟩
    rw [roundX, e2]
    rcases e4 (halfY (Nd.mk xa xp xL xm xo) (Nd.mk ya yp yL ym yo)) with ⟨q, r, e⟩ | ⟨q, r, e⟩
    · rw [e]; simp only [msX, Nd.tick]; omega
    · rw [e]; simp only [msX, Nd.tick]; omega
theorem round_a (x y : Nd) : x.a ≤ (roundX x y).a ∧ y.a ≤ (roundY x y).a := by
  obtain ⟨xa, xp, xL, xm, xo⟩ := x
  obtain ⟨ya, yp, yL, ym, yo⟩ := y
  have hk : ∀ (z : Nd) (c : Nat), z.a ≤ (z.ack c).a := by
    intro z c; rw [Nd.ack]; split
    · simp
    · exact Nat.le_refl _
  have hy : ∀ z w : Nd, w.a ≤ (halfY z w).a := by
    intro z w; rw [halfY]; split
    · exact hk w _
    · split
      · exact hk w _
      · exact Nat.le_refl _
  have hx : ∀ z : Nd, (halfX z).a = z.a := by intro z; rw [halfX]; split <;> rfl
  refine ⟨?_, ?_⟩
  · have := hy (halfY (Nd.mk xa xp xL xm xo) (Nd.mk ya yp yL ym yo)) (halfX (Nd.mk xa xp xL xm xo))
    rw [hx] at this
    exact this
  · have := hy (Nd.mk xa xp xL xm xo) (Nd.mk ya yp yL ym yo)
    rw [roundY, Nd.tick, hx]
    exact this
theorem ack_hit {y : Nd} {c : Nat} (h : y.a < y.L) (hc : c = y.a + 1) : y.ack c = { y with a := y.a + 1, p := 0 } := by
  rw [Nd.ack, if_pos ⟨h, by omega⟩]
theorem ack_same {y : Nd} {c : Nat} (hc : c = y.a) : y.ack c = y := by
  rw [Nd.ack, if_neg (fun h => h.2 hc)]
/-- behind the first half: the second end as it was, or one further and due -/
theorem halfY_two {x y : Nd} (h : NI x y) (hd : y.a < y.L) : ((halfY x y).a = y.a + 1 ∧ (halfY x y).p = 0 ∧ (halfY x y).L = y.L) ∨ ((halfY x y).a = y.a ∧ (halfY x y).p = y.p ∧ (halfY x y).L = y.L ∧ fastY x y = false) := by
  have h4 := h.ya
  have h5 := h.ym
  by_cases hm : x.m = y.a + 1
  · by_cases hs : x.due = true
    · left; rw [halfY, if_pos hs, ack_hit hd hm]; exact ⟨rfl, rfl, rfl⟩
    · by_cases ho : x.o = true
      · left; rw [halfY, if_neg hs, if_pos ho, ack_hit hd hm]; exact ⟨rfl, rfl, rfl⟩
      · right; rw [halfY, if_neg hs, if_neg ho]
        exact ⟨rfl, rfl, rfl, by simp only [fastY]; cases hx : x.o with
          | true => exact absurd hx ho
          | false => rfl⟩
  · have he : x.m = y.a := by omega
    have hf : fastY x y = false := by simp [fastY, hm]
    right
    rw [halfY]
    split
    · rw [ack_same he]; exact ⟨rfl, rfl, rfl, hf⟩
    · split
      · rw [ack_same he]; exact ⟨rfl, rfl, rfl, hf⟩
      · exact ⟨rfl, rfl, rfl, hf⟩
theorem round_y {x y : Nd} (h : NI x y) (hd : y.a < y.L) : msY (roundX x y) (roundY x y) < msY x y := by
  have hr := h.round
  have hh := h.half
  have h8 := h.yp
  have hrp := hr.yp
  have hb : ∀ u v : Nd, NI u v → msY u v ≤ 6 * (v.L - v.a) + 5 := by
    intro u v k
    have := k.yp
    unfold msY; split <;> omega
  have hya : (roundY x y).a = (halfY x y).a := by rw [roundY, Nd.tick, halfX]; split <;> rfl
  have hyl : (roundY x y).L = (halfY x y).L := by rw [roundY, Nd.tick, halfX]; split <;> rfl
  have hlow : 6 * (y.L - y.a) ≤ msY x y := by unfold msY; omega
  rcases halfY_two h hd with ⟨e1, e2, e3⟩ | ⟨e1, e2, e3, e4⟩
  · have := hb _ _ hr
    rw [hya, hyl, e1, e3] at this
    omega
  · have hy0 : msY x y = 6 * (y.L - y.a) + (y.p + 1) := by unfold msY; rw [e4]; simp
    by_cases hp : y.p = 0
    · -- it goes out; the first end owes an answer
      have hdue : (halfY x y).due = true := by simp [Nd.due, e1, e2, e3, hd, hp]
      have hf : fastY (roundX x y) (roundY x y) = true := by
        have hm := hr.ym
        have hm' := hr.ya
        have ho : (roundX x y).o = true := by rw [roundX, Nd.tick, halfY, if_pos hdue]; rfl
        have hk : ∀ (z : Nd) (c q : Nat), ((z.ack c).data q).m = if q = z.m then z.m + 1 else z.m := by
          intro z c q; rw [Nd.ack]; split <;> rfl
        have hxm : (roundX x y).m = y.a + 1 := by
          rw [roundX, Nd.tick]
          simp only
          rw [halfY, if_pos hdue, hk, e1]
          have hx : (halfX x).m = x.m := by rw [halfX]; split <;> rfl
          rw [hx]
          have := h.ya
          have := h.ym
          split <;> omega
        rw [fastY, ho, hxm, hya, e1]; simp
      unfold msY
      rw [hf, hya, hyl, e1, e3, e4]
      simp
    · have hdue : (halfY x y).due = false := by simp [Nd.due, e2, hp]
      have hyp : (roundY x y).p = y.p - 1 := by rw [roundY, Nd.tick, halfX, hdue]; exact congrArg (· - 1) e2
      have : msY (roundX x y) (roundY x y) ≤ 6 * (y.L - y.a) + (y.p - 1 + 1) := by
        unfold msY
        rw [hya, hyl, e1, e3, hyp]
        split <;> omega
      omega

/-- rounds behind rounds -/
def rounds : Nat → Nd × Nd → Nd × Nd
  | 0, s => s
  | k + 1, s => let t := rounds k s; (roundX t.1 t.2, roundY t.1 t.2)
theorem rounds_inv {s : Nd × Nd} (h : NI s.1 s.2) : ∀ k, NI (rounds k s).1 (rounds k s).2 ∧ (rounds k s).1.L = s.1.L ∧ (rounds k s).2.L = s.2.L ∧
    ((rounds k s).1.a = s.1.L ∨ msX (rounds k s).1 + k ≤ msX s.1) ∧ ((rounds k s).2.a = s.2.L ∨ msY (rounds k s).1 (rounds k s).2 + k ≤ msY s.1 s.2)
  | 0 => ⟨h, rfl, rfl, .inr (Nat.le_refl _), .inr (Nat.le_refl _)⟩
  | k + 1 => by
    obtain ⟨i1, i2, i3, i4, i5⟩ := rounds_inv h k
    have hr := i1.round
    have hL := round_L (rounds k s).1 (rounds k s).2
    have ha := round_a (rounds k s).1 (rounds k s).2
    have b1 := hr.xa
    have b2 := hr.xl
    have b3 := hr.ya
    have b4 := hr.yl
    refine ⟨hr, hL.1.trans i2, hL.2.trans i3, ?_, ?_⟩
    · rcases Nat.lt_or_ge (rounds k s).1.a (rounds k s).1.L with hd | hd
      · have := round_x i1 hd
        rcases i4 with i4 | i4
        · omega
        · right; simp only [rounds]; omega
      · left; simp only [rounds]; omega
    · rcases Nat.lt_or_ge (rounds k s).2.a (rounds k s).2.L with hd | hd
      · have := round_y i1 hd
        rcases i5 with i5 | i5
        · omega
        · right; simp only [rounds]; omega
      · left; simp only [rounds]; omega
/-- over a line that does as it should all arrives -/
theorem rounds_all {s : Nd × Nd} (h : NI s.1 s.2) (k : Nat) (hk : 6 * (s.1.L + s.2.L) + 6 ≤ k) :
    (rounds k s).1.a = s.1.L ∧ (rounds k s).2.a = s.2.L ∧ (rounds k s).2.m = s.1.L ∧ (rounds k s).1.m = s.2.L := by
  obtain ⟨i1, i2, i3, i4, i5⟩ := rounds_inv h k
  have hp := h.xp
  have hq := h.yp
  have m1 : msX s.1 ≤ 5 * s.1.L + 4 := by unfold msX; omega
  have m2 : msY s.1 s.2 ≤ 6 * s.2.L + 5 := by unfold msY; split <;> omega
  have b1 := i1.xa
  have b2 := i1.xl
  have b3 := i1.ya
  have b4 := i1.yl
  have e1 : (rounds k s).1.a = s.1.L := by rcases i4 with i4 | i4 <;> omega
  have e2 : (rounds k s).2.a = s.2.L := by rcases i5 with i5 | i5 <;> omega
  exact ⟨e1, e2, by omega, by omega⟩
end Go.Proofs.YthchicolifkpiaaDoor
