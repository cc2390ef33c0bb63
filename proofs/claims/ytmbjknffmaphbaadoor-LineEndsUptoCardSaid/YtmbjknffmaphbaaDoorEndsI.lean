/- What an end of the program and an end of the document keep, side by side: the relation, and how each hap keeps it. -/
import Derived.Test.YtmbjknffmaphbaaDoorPAll
namespace Go.Proofs.YtmbjknffmaphbaaDoor
open Go.RowKit Go.Lib
set_option linter.unusedVariables false

theorem tab_blockE {W : World} (h : Tab W) : 0 < W.heap.size := World.block_lt_of_cell? _ _ (h 0 (by decide))
/-- the numbers of both ends -/
structure Good (i : Nat) (G T : List ByteArray) (A k : Nat) (ago : Int) (K : List TB) (told : Nat) (part : ByteArray) (lost : Bool) (got : List ByteArray) : Prop where
  out : OutRel G A T k
  gz : ∀ s ∈ G, s.size ≤ 4096
  gl : G.length ≤ i
  kl : K.length ≤ i
  kz : ∀ x ∈ K, x.b.size ≤ 32
  inn : InRel (bodies K) told part lost got
  idle : T = [] → ago = -1
  lo : -1 ≤ ago
  hi : ago ≤ i
theorem Good.new : Good 0 [] [] 0 0 (-1) [] 0 ByteArray.empty false [] where
  out := out_new
  gz := fun s hs => by cases hs
  gl := Nat.le_refl _
  kl := Nat.le_refl _
  kz := fun s hs => by cases hs
  inn := in_new
  idle := fun _ => rfl
  lo := by omega
  hi := by omega
theorem Good.tz {i : Nat} {G T : List ByteArray} {A k : Nat} {ago : Int} {K : List TB} {told : Nat} {part : ByteArray} {lost : Bool} {got : List ByteArray} (h : Good i G T A k ago K told part lost got) : ∀ x r, T = x :: r → x.size ≤ 4096 ∧ 32 * k ≤ x.size := by
  rintro x r rfl
  obtain ⟨D, hG, _, _, hk⟩ := h.out
  exact ⟨h.gz x (by rw [hG]; simp), npc_at (hk x r rfl)⟩
theorem Good.pz {i : Nat} {G T : List ByteArray} {A k : Nat} {ago : Int} {K : List TB} {told : Nat} {part : ByteArray} {lost : Bool} {got : List ByteArray} (h : Good i G T A k ago K told part lost got) : part.size ≤ 4096 := by
  obtain ⟨h1, h2, _, _⟩ := h.inn
  rw [h2]
  cases hl : lost with
  | true => exact Nat.zero_le _
  | false =>
    rw [hl] at h1
    have := of_decide_eq_false h1.symm
    simp only [Bool.false_eq_true, if_false]
    omega
theorem Good.al {i : Nat} {G T : List ByteArray} {A k : Nat} {ago : Int} {K : List TB} {told : Nat} {part : ByteArray} {lost : Bool} {got : List ByteArray} (h : Good i G T A k ago K told part lost got) : (inL (bodies K)).1.length ≤ K.length := by
  have := (inL_bound K h.kz K.length (Nat.le_refl _)).2
  rwa [List.take_length] at this
theorem Good.gotl {i : Nat} {G T : List ByteArray} {A k : Nat} {ago : Int} {K : List TB} {told : Nat} {part : ByteArray} {lost : Bool} {got : List ByteArray} (h : Good i G T A k ago K told part lost got) : got.length ≤ i := by
  have h1 := h.al
  have h2 := h.kl
  rw [h.inn.2.2.1, List.length_drop]
  omega
theorem Good.mono {i j : Nat} {G T : List ByteArray} {A k : Nat} {ago : Int} {K : List TB} {told : Nat} {part : ByteArray} {lost : Bool} {got : List ByteArray} (h : Good i G T A k ago K told part lost got) (hij : i ≤ j) : Good j G T A k ago K told part lost got :=
  ⟨h.out, h.gz, by have := h.gl; omega, by have := h.kl; omega, h.kz, h.inn, h.idle, h.lo, by have := h.hi; omega⟩
theorem Good.give {i : Nat} {G T : List ByteArray} {A k : Nat} {ago : Int} {K : List TB} {told : Nat} {part : ByteArray} {lost : Bool} {got : List ByteArray} (h : Good i G T A k ago K told part lost got) {s : ByteArray} (hs : s.size ≤ 4096) : Good (i + 1) (G ++ [s]) (T ++ [s]) A k ago K told part lost got where
  out := out_give h.out s
  gz := fun x hx => by
    rcases List.mem_append.1 hx with hx | hx
    · exact h.gz x hx
    · rw [List.mem_singleton.1 hx]; exact hs
  gl := by have := h.gl; simp; omega
  kl := by have := h.kl; omega
  kz := h.kz
  inn := h.inn
  idle := fun e => by simp at e
  lo := h.lo
  hi := by have := h.hi; omega
theorem hit_same {i : Nat} {G T : List ByteArray} {A k : Nat} {ago : Int} {K : List TB} {told : Nat} {part : ByteArray} {lost : Bool} {got : List ByteArray} (h : Good i G T A k ago K told part lost got) (s : ByteArray) : hitP T ((A % 2 : Nat) : Int) s = hitB G A s := by
  unfold hitP hitB
  congr 1
  rw [decide_eq_decide]
  exact (out_lt h.out).symm
theorem Good.hit {i : Nat} {G T : List ByteArray} {A k : Nat} {ago : Int} {K : List TB} {told : Nat} {part : ByteArray} {lost : Bool} {got : List ByteArray} (h : Good i G T A k ago K told part lost got) (s : ByteArray) :
    Good i G (pT T k (hitB G A s)) (hearA G A s) (pK T k (hitB G A s)) (hearG G A ago s) K told part lost got ∧ (if hitB G A s then 1 - ((A % 2 : Nat) : Int) else ((A % 2 : Nat) : Int)) = ((hearA G A s % 2 : Nat) : Int) ∧ (if hitB G A s then 0 else pauseOf ago) = pauseOf (hearG G A ago s) := by
  unfold pT pK hearA hearG
  cases hb : hitB G A s with
  | false => exact ⟨h, rfl, rfl⟩
  | true =>
    simp only [if_true]
    have hne : T ≠ [] := by
      have h1 : A < (piecesL G).length := by
        unfold hitB at hb
        rw [Bool.and_eq_true] at hb
        exact of_decide_eq_true hb.1
      exact (out_lt h.out).1 h1
    obtain ⟨x, r, rfl⟩ := List.exists_cons_of_ne_nil hne
    obtain ⟨o1, o2⟩ := out_arrive h.out
    have hrel : OutRel G (A + 1) (arrT x r k) (arrK x k) := by
      unfold arrT arrK
      by_cases hx : 32 * k + 32 < x.size
      · rw [if_pos hx, if_pos hx]; exact o1 hx
      · rw [if_neg hx, if_neg hx]; exact o2 hx
    exact ⟨⟨hrel, h.gz, h.gl, h.kl, h.kz, h.inn, fun _ => rfl, by omega, by omega⟩, by omega, rfl⟩
theorem Good.more {i : Nat} {G T : List ByteArray} {A k : Nat} {ago : Int} {K : List TB} {told : Nat} {part : ByteArray} {lost : Bool} {got : List ByteArray} (h : Good i G T A k ago K told part lost got) (s : ByteArray) :
    Good (i + 1) G T A k ago (K ++ [⟨uT s, uN s, uM s, uH s, uB s⟩]) told (accP part lost (uM s) (uB s)) (accL part lost (uM s) (uB s)) (accG part lost (uM s) got (uB s)) where
  out := h.out
  gz := h.gz
  gl := by have := h.gl; omega
  kl := by have := h.kl; simp; omega
  kz := fun x hx => by
    rcases List.mem_append.1 hx with hx | hx
    · exact h.kz x hx
    · rw [List.mem_singleton.1 hx]; exact uB_size s
  inn := by
    rw [bodies_snoc]
    unfold accP accL accG
    cases uM s with
    | true => exact in_more h.inn (uB s)
    | false => exact in_last h.inn (uB s)
  idle := h.idle
  lo := h.lo
  hi := by have := h.hi; omega
theorem Good.tick {i : Nat} {G T : List ByteArray} {A k : Nat} {ago : Int} {K : List TB} {told : Nat} {part : ByteArray} {lost : Bool} {got : List ByteArray} (h : Good i G T A k ago K told part lost got) :
    Good (i + 1) G T A k (tickN T.length ago) K told part lost got ∧ tickP (pauseOf ago) = pauseOf (tickN T.length ago) := by
  have h1 := h.lo
  have h2 := h.hi
  have h3 := pause_range ago
  by_cases hT : T = []
  · have ha := h.idle hT
    subst hT ha
    exact ⟨h.mono (by omega), rfl⟩
  · have hl : 0 < T.length := List.length_pos_iff.2 hT
    by_cases h0 : 0 ≤ ago
    · have e : tickN T.length ago = ago + 1 := if_pos ⟨hl, h0⟩
      rw [e, pause_tick ago h0]
      refine ⟨⟨h.out, h.gz, by have := h.gl; omega, by have := h.kl; omega, h.kz, h.inn, fun e => absurd e hT, by omega, by omega⟩, ?_⟩
      unfold tickP
      split <;> omega
    · have e : tickN T.length ago = ago := if_neg (fun hx => h0 hx.2)
      rw [e]
      refine ⟨h.mono (by omega), ?_⟩
      have hp : pauseOf ago = 0 := (pause_zero ago).2 (.inl (by omega))
      rw [hp]
      rfl
theorem due_same (T : List ByteArray) (ago : Int) : dueP T (pauseOf ago) = dueB T ago := by
  unfold dueP dueB
  congr 1
  rw [Bool.eq_iff_iff]
  simp [pause_zero]
theorem sent_same (T : List ByteArray) (A k kn : Nat) (d : Bool) : sentP T k ((A % 2 : Nat) : Int) ((kn % 2 : Nat) : Int) d = sentT T A k kn d := rfl
theorem Good.take {i : Nat} {G T : List ByteArray} {A k : Nat} {ago : Int} {K : List TB} {told : Nat} {part : ByteArray} {lost : Bool} {got : List ByteArray} (h : Good i G T A k ago K told part lost got) :
    Good (i + 1) G T A k (if dueB T ago then 0 else ago) K told part lost got ∧ (if dueB T ago then 4 else pauseOf ago) = pauseOf (if dueB T ago then 0 else ago) := by
  cases hd : dueB T ago with
  | false => exact ⟨h.mono (by omega), rfl⟩
  | true =>
    refine ⟨⟨h.out, h.gz, by have := h.gl; omega, by have := h.kl; omega, h.kz, h.inn, fun e => ?_, by simp, by simp; omega⟩, rfl⟩
    subst e
    simp [dueB] at hd
theorem Good.gotten {i : Nat} {G T : List ByteArray} {A k : Nat} {ago : Int} {K : List TB} {told : Nat} {part : ByteArray} {lost : Bool} {got : List ByteArray} (h : Good i G T A k ago K told part lost got) : Good (i + 1) G T A k ago K (inL (bodies K)).1.length part lost [] where
  out := h.out
  gz := h.gz
  gl := by have := h.gl; omega
  kl := by have := h.kl; omega
  kz := h.kz
  inn := in_got h.inn
  idle := h.idle
  lo := h.lo
  hi := by have := h.hi; omega

/-- the document's end in memory -/
def GRow (w : World) (go : Option Addr) (gc : Nat) (G : List ByteArray) (rb : Nat) (S : Nat → Prop) : Prop :=
  (G = [] ∧ go = none ∧ gc = 0) ∨ (0 < G.length ∧ ∃ q, go = some ⟨q, 0, none⟩ ∧ q < w.heap.size ∧ q ≠ rb ∧ ¬ S q ∧ ∀ i s, G[i]? = some s → w.cell? ⟨q, 0 + i, none⟩ = some (.string s))
def KRowX (w : World) (ko : Option Addr) (kc : Nat) (K : List TB) (rb : Nat) (S : Nat → Prop) : Prop :=
  (K = [] ∧ ko = none ∧ kc = 0) ∨ (0 < K.length ∧ ∃ q, ko = some ⟨q, 0, none⟩ ∧ q < w.heap.size ∧ q ≠ rb ∧ ¬ S q ∧ ∀ j u, (cellsB K)[j]? = some u → w.cell? ((⟨q, 0, none⟩ : Addr).add j) = some u)
theorem GRow.srow {w : World} {go : Option Addr} {gc : Nat} {G : List ByteArray} {rb : Nat} {S : Nat → Prop} (h : GRow w go gc G rb S) : SRow w go G := by
  rcases h with ⟨h, _⟩ | ⟨_, q, h1, h2, _, _, h3⟩
  · exact .inl h
  · exact .inr ⟨q, 0, h1, h2, h3⟩
theorem GRow.nil {w : World} {go : Option Addr} {gc : Nat} {G : List ByteArray} {rb : Nat} {S : Nat → Prop} (h : GRow w go gc G rb S) : G = [] → go = none ∧ gc = 0 := fun e => by
  rcases h with ⟨_, h⟩ | ⟨h0, _⟩
  · exact h
  · rw [e] at h0; cases h0
theorem KRowX.krow {w : World} {ko : Option Addr} {kc : Nat} {K : List TB} {rb : Nat} {S : Nat → Prop} (h : KRowX w ko kc K rb S) : KRow w ko kc K := by
  rcases h with h | ⟨h0, q, h1, h2, _, _, h3⟩
  · exact .inl h
  · exact .inr ⟨h0, q, h1, h2, h3⟩
theorem GRow.step {w w' : World} {go : Option Addr} {gc : Nat} {G : List ByteArray} {rb : Nat} {S S' : Nat → Prop} (h : GRow w go gc G rb S) (hk : KeepP S w w') (hn : ∀ q, S' q → S q ∨ w.heap.size ≤ q) : GRow w' go gc G rb S' := by
  rcases h with h | ⟨h0, q, h1, h2, h3, h4, h5⟩
  · exact .inl h
  · exact .inr ⟨h0, q, h1, Nat.lt_of_lt_of_le h2 hk.size, h3, fun hx => (hn q hx).elim h4 (fun hy => by omega), fun i s hs => (hk.cell (a := ⟨q, 0 + i, none⟩) h2 h4).trans (h5 i s hs)⟩
theorem KRowX.step {w w' : World} {ko : Option Addr} {kc : Nat} {K : List TB} {rb : Nat} {S S' : Nat → Prop} (h : KRowX w ko kc K rb S) (hk : KeepP S w w') (hn : ∀ q, S' q → S q ∨ w.heap.size ≤ q) : KRowX w' ko kc K rb S' := by
  rcases h with h | ⟨h0, q, h1, h2, h3, h4, h5⟩
  · exact .inl h
  · exact .inr ⟨h0, q, h1, Nat.lt_of_lt_of_le h2 hk.size, h3, fun hx => (hn q hx).elim h4 (fun hy => by omega), fun j u hu => (hk.cell (by rw [addr_add_block]; exact h2) (by rw [addr_add_block]; exact h4)).trans (h5 j u hu)⟩
theorem GRow.below {w w' : World} {go : Option Addr} {gc : Nat} {G : List ByteArray} {rb : Nat} {S : Nat → Prop} (h : GRow w go gc G rb S) (hb : Below w.heap.size w w') : GRow w' go gc G rb S := h.step (KeepP.of_below hb) (fun q hq => .inl hq)
theorem KRowX.below {w w' : World} {ko : Option Addr} {kc : Nat} {K : List TB} {rb : Nat} {S : Nat → Prop} (h : KRowX w ko kc K rb S) (hb : Below w.heap.size w w') : KRowX w' ko kc K rb S := h.step (KeepP.of_below hb) (fun q hq => .inl hq)
theorem GRow.set {w : World} {go : Option Addr} {gc : Nat} {G : List ByteArray} {rb j : Nat} {S : Nat → Prop} {v : Value} (h : GRow w go gc G rb S) : GRow (w.setCell ⟨rb, j, none⟩ v) go gc G rb S := by
  rcases h with h | ⟨h0, q, h1, h2, h3, h4, h5⟩
  · exact .inl h
  · exact .inr ⟨h0, q, h1, by simpa using h2, h3, h4, fun i s hs => set_cellT h3 (h5 i s hs)⟩
theorem KRowX.set {w : World} {ko : Option Addr} {kc : Nat} {K : List TB} {rb j : Nat} {S : Nat → Prop} {v : Value} (h : KRowX w ko kc K rb S) : KRowX (w.setCell ⟨rb, j, none⟩ v) ko kc K rb S := by
  rcases h with h | ⟨h0, q, h1, h2, h3, h4, h5⟩
  · exact .inl h
  · exact .inr ⟨h0, q, h1, by simpa using h2, h3, h4, fun j' u hu => (World.cell?_of_block (by rw [addr_add_block]; exact set_other h3)).trans (h5 j' u hu)⟩
theorem GRow.of_own {w : World} {base g cap rb : Nat} {G : List ByteArray} {S : Nat → Prop} (h0 : 0 < G.length) (h : w.ownsRow base 9 1 (.slice (some ⟨g, 0, none⟩) G.length cap) G.length (cellsT G)) (hr : rb < base) (hS : ∀ q, S q → q < base) : GRow w (some ⟨g, 0, none⟩) cap G rb S := by
  have hl := h.lt g rfl
  refine .inr ⟨h0, g, rfl, hl.2, by omega, fun hx => by have := hS g hx; omega, fun i s hs => ?_⟩
  have hc := h.cells (g := g) rfl i (.string s) (by simp [cellsT, hs])
  rw [Addr.add_lit] at hc
  exact hc
theorem KRowX.of_own {w : World} {base g cap rb : Nat} {K : List TB} {S : Nat → Prop} (h0 : 0 < K.length) (h : w.ownsRow base 23 5 (.slice (some ⟨g, 0, none⟩) K.length cap) K.length (cellsB K)) (hr : rb < base) (hS : ∀ q, S q → q < base) : KRowX w (some ⟨g, 0, none⟩) cap K rb S := by
  have hl := h.lt g rfl
  exact .inr ⟨h0, g, rfl, hl.2, by omega, fun hx => by have := hS g hx; omega, h.cells (g := g) rfl⟩
/-- six stores -/
def put6 (w : World) (rb : Nat) (a0 a1 a2 a3 a4 a5 : Value) : World := (((((w.setCell ⟨rb, 0, none⟩ a0).setCell ⟨rb, 1, none⟩ a1).setCell ⟨rb, 2, none⟩ a2).setCell ⟨rb, 3, none⟩ a3).setCell ⟨rb, 4, none⟩ a4).setCell ⟨rb, 5, none⟩ a5

/-- both ends, side by side -/
structure EInv (w : World) (b rb base i : Nat) (G T : List ByteArray) (A k : Nat) (ago : Int) (K : List TB) (o : Bool) (told : Nat) (part : ByteArray) (lost : Bool) (got : List ByteArray) (tv pv gv : Value) (go : Option Addr) (gc : Nat) (ko : Option Addr) (kc : Nat) : Prop where
  p : PAt w b base T ((32 * k : Nat) : Int) ((A % 2 : Nat) : Int) (pauseOf ago) ((K.length % 2 : Nat) : Int) o part lost got tv pv gv
  r : w.heap[rb]? = some (.cells #[.slice go G.length gc, .int .i64 A, .int .i64 ago, .slice ko K.length kc, .bool o, .int .i64 told] 39)
  nr : ¬ InP b tv pv gv rb
  br : base ≤ rb
  gs : GRow w go gc G rb (InP b tv pv gv)
  ks : KRowX w ko kc K rb (InP b tv pv gv)
  good : Good i G T A k ago K told part lost got
def EI (w : World) (b rb base i : Nat) : Prop := ∃ G T A k ago K o told part lost got tv pv gv go gc ko kc, EInv w b rb base i G T A k ago K o told part lost got tv pv gv go gc ko kc
theorem EI.new {W : World} {b rb base : Nat} (hp : PAt W b base [] 0 0 0 0 false ByteArray.empty false [] (.slice none 0 0) (.slice none 0 0) (.slice none 0 0))
    (hr : W.heap[rb]? = some (.cells #[.slice none 0 0, .int .i64 0, .int .i64 (-1), .slice none 0 0, .bool false, .int .i64 0] 39)) (hne : rb ≠ b) (hbr : base ≤ rb) : EI W b rb base 0 := by
  have e : pauseOf (-1) = 0 := (pause_zero _).2 (.inl (by omega))
  refine ⟨[], [], 0, 0, -1, [], false, 0, ByteArray.empty, false, [], .slice none 0 0, .slice none 0 0, .slice none 0 0, none, 0, none, 0, ⟨?_, hr, ?_, hbr, .inl ⟨rfl, rfl, rfl⟩, .inl ⟨rfl, rfl, rfl⟩, Good.new⟩⟩
  · rw [e]; exact hp
  · rintro (hx | hx | hx | hx)
    · exact hne hx
    · cases hx
    · cases hx
    · cases hx
theorem EInv.rlt {w : World} {b rb base i : Nat} {G T : List ByteArray} {A k : Nat} {ago : Int} {K : List TB} {o : Bool} {told : Nat} {part : ByteArray} {lost : Bool} {got : List ByteArray} {tv pv gv : Value} {go : Option Addr} {gc : Nat} {ko : Option Addr} {kc : Nat} (h : EInv w b rb base i G T A k ago K o told part lost got tv pv gv go gc ko kc) : rb < w.heap.size :=
  World.block_lt_of_cell? w ⟨rb, 0, none⟩ (six_cells h.r).1.1
/-- behind a call of the document's and the six stores: what both ends are -/
theorem stored6 {w W : World} {b rb base : Nat} {T : List ByteArray} {arr turn pause aw : Int} {o : Bool} {part : ByteArray} {lost : Bool} {got : List ByteArray} {tv pv gv c0 c1 c2 c3 c4 c5 : Value} (hp : PAt w b base T arr turn pause aw o part lost got tv pv gv)
    (hr : w.heap[rb]? = some (.cells #[c0, c1, c2, c3, c4, c5] 39)) (nr : ¬ InP b tv pv gv rb) (br : base ≤ rb) (hb : Below w.heap.size w W) (a0 a1 a2 a3 a4 a5 : Value) :
    PAt (put6 W rb a0 a1 a2 a3 a4 a5) b base T arr turn pause aw o part lost got tv pv gv ∧ (put6 W rb a0 a1 a2 a3 a4 a5).heap[rb]? = some (.cells #[a0, a1, a2, a3, a4, a5] 39) ∧ (∀ q, q ≠ rb → (put6 W rb a0 a1 a2 a3 a4 a5).heap[q]? = W.heap[q]?) ∧ (put6 W rb a0 a1 a2 a3 a4 a5).heap.size = W.heap.size ∧
    (∀ go gc G, GRow W go gc G rb (InP b tv pv gv) → GRow (put6 W rb a0 a1 a2 a3 a4 a5) go gc G rb (InP b tv pv gv)) ∧ (∀ ko kc K, KRowX W ko kc K rb (InP b tv pv gv) → KRowX (put6 W rb a0 a1 a2 a3 a4 a5) ko kc K rb (InP b tv pv gv)) ∧ Below base w (put6 W rb a0 a1 a2 a3 a4 a5) := by
  have hB : base ≤ w.heap.size := by have := hp.lo; have := hp.lt; omega
  have hlt : rb < w.heap.size := World.block_lt_of_cell? w ⟨rb, 0, none⟩ (six_cells hr).1.1
  refine ⟨((((((hp.below hb).aside nr).aside nr).aside nr).aside nr).aside nr).aside nr, ?_, ?_, by simp [put6], fun _ _ _ hx => hx.set.set.set.set.set.set, fun _ _ _ hx => hx.set.set.set.set.set.set, ?_⟩
  · exact (set_row (set_row (set_row (set_row (set_row (set_row ((hb.block rb hlt).trans hr))))))).trans rfl
  · intro q hq
    exact (set_other hq).trans ((set_other hq).trans ((set_other hq).trans ((set_other hq).trans ((set_other hq).trans (set_other hq)))))
  · exact ((((((hb.mono hB).setCell br _).setCell br _).setCell br _).setCell br _).setCell br _).setCell br _
/-- behind a call of the program's -/
theorem einv_done {W w : World} {b rb base i : Nat} {G T : List ByteArray} {A k : Nat} {ago : Int} {K : List TB} {o : Bool} {told : Nat} {part : ByteArray} {lost : Bool} {got : List ByteArray} {tv pv gv tv' pv' gv' : Value} {go : Option Addr} {gc : Nat} {ko : Option Addr} {kc : Nat} {turn pause aw : Int} {kk : Int}
    (hr : W.heap[rb]? = some (.cells #[.slice go G.length gc, .int .i64 A, .int .i64 ago, .slice ko K.length kc, .bool o, .int .i64 told] 39)) (nr : ¬ InP b tv pv gv rb) (br : base ≤ rb) (hg : GRow W go gc G rb (InP b tv pv gv)) (hk : KRowX W ko kc K rb (InP b tv pv gv))
    (hP : PAt w b base T kk turn pause aw o part lost got tv' pv' gv') (hs : StepP b W w tv pv gv tv' pv' gv') (e0 : kk = ((32 * k : Nat) : Int)) (e1 : turn = ((A % 2 : Nat) : Int)) (e2 : pause = pauseOf ago) (e3 : aw = ((K.length % 2 : Nat) : Int)) (good : Good i G T A k ago K told part lost got) : EI w b rb base i := by
  have hlt : rb < W.heap.size := World.block_lt_of_cell? W ⟨rb, 0, none⟩ (six_cells hr).1.1
  subst e0 e1 e2 e3
  exact ⟨G, T, A, k, ago, K, o, told, part, lost, got, tv', pv', gv', go, gc, ko, kc, ⟨hP, (hs.keep.block rb hlt nr).trans hr, fun hx => (hs.new rb hx).elim nr (fun hy => by omega), br, hg.step hs.keep hs.new, hk.step hs.keep hs.new, good⟩⟩
end Go.Proofs.YtmbjknffmaphbaaDoor
