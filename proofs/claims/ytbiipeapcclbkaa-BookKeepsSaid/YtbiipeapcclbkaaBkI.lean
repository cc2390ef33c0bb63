/- BookKeeps: what holds between two lines. -/
import Derived.Test.YtbiipeapcclbkaaBkC
namespace Go.Proofs.Ytbiipeapcclbkaa
open Go.RowKit Go.Shelf
set_option linter.unusedVariables false
set_option linter.unusedSimpArgs false
set_option maxRecDepth 100000

/-- a book of the document, as its cells -/
structure My where
  c : Int
  ao : Option Addr
  n : Nat
  cap : Nat
def cellsMy (x : My) : List Value := [.int .i64 x.c, .slice x.ao x.n x.cap]
theorem cellsMy_len (x : My) : (cellsMy x).length = 2 := rfl
structure BkI (w0 wx : World) (C mb bb rb : Nat) (M : Mm) (Lb L : List En) (ml : List My) (v pl rv may : Value) : Prop where
  book : BookAt wx w0.heap.size bb mb v M pl Lb
  laid : Laid M.C Lb
  len : M.C.length = C
  c4 : 4 ≤ C
  ren : REn wx w0.heap.size rv L
  pos : posL L ≤ 100000
  ok : ∀ e ∈ L, okEn e
  rbx : wx.heap[rb]? = some (.cells #[.int .i64 (C : Int), rv] 33)
  mays : OwnR wx w0.heap.size 33 2 cellsMy may ml
  mlen : ml.length ≤ 1
  mnil : M.off = false → ml = []
  mn2 : ml = [] → may = .slice none 0 0
  sr : ∀ x, rv.ownBlock = some x → ¬ bkF bb mb v pl x ∧ x ≠ rb
  sb : ¬ bkF bb mb v pl rb
  sm : ∀ x, may.ownBlock = some x → ¬ bkF bb mb v pl x ∧ x ≠ rb ∧ rv.ownBlock ≠ some x
  lo : w0.heap.size ≤ rb
  lf : ∀ x, bkF bb mb v pl x → w0.heap.size ≤ x
  bel : Below w0.heap.size w0 wx
section
variable {w0 wx wy : World} {C mb bb rb : Nat} {M : Mm} {Lb L : List En} {ml : List My} {v pl rv may : Value}
theorem BkI.below (h : BkI w0 wx C mb bb rb M Lb L ml v pl rv may) (hb : Below wx.heap.size wx wy) : BkI w0 wy C mb bb rb M Lb L ml v pl rv may :=
  ⟨h.book.below hb, h.laid, h.len, h.c4, h.ren.below hb, h.pos, h.ok, (hb.block _ (block_ltR h.rbx)).trans h.rbx, h.mays.below hb, h.mlen, h.mnil, h.mn2, h.sr, h.sb, h.sm, h.lo, h.lf, h.bel.trans (hb.mono h.bel.size)⟩
theorem BkI.C_le (h : BkI w0 wx C mb bb rb M Lb L ml v pl rv may) : C ≤ 100000 := by rw [← h.len]; exact h.book.sto.mem.len
/-- a call of the program -/
theorem BkI.step {er er2 : Int} {L2 L' : List En} {M' : Mm} {pl' : Value} (h : BkI w0 wx C mb bb rb M L L ml v pl rv may) (k : StepB wx wy w0.heap.size bb mb v pl M L L2 er er2 M' pl' L') :
    BkI w0 wy C mb bb rb M' L' L ml v pl' rv may := by
  have hF : ∀ x, bkF bb mb v pl' x → bkF bb mb v pl x ∨ wx.heap.size ≤ x := by
    rintro x (hx | hx)
    · exact .inl (.inl hx)
    · rcases k.own with h1 | ⟨y, h1, h2⟩
      · exact .inl (.inr (h1 ▸ hx))
      · rw [h1] at hx
        obtain rfl : y = x := Option.some.inj hx
        exact .inr h2
  have hrb := block_ltR h.rbx
  refine ⟨k.book, k.laid, k.len.trans h.len, h.c4, ⟨h.ren.row.chg k.chg (fun x hx => (h.sr x hx).1), h.ren.nil⟩, h.pos, h.ok, (k.chg.block _ hrb h.sb).trans h.rbx, h.mays.chg k.chg (fun x hx => (h.sm x hx).1), h.mlen, fun ho => ?_, h.mn2, fun x hx => ⟨fun hf => ?_, (h.sr x hx).2⟩, fun hf => ?_, fun x hx => ⟨fun hf => ?_, (h.sm x hx).2⟩, h.lo, fun x hx => ?_, h.bel.trans (k.chg.below h.bel.size h.lf)⟩
  · apply h.mnil
    cases hm : M.off with
    | false => rfl
    | true => have := (k.offs (k.dead hm)).1; rw [ho] at this; cases this
  · rcases hF x hf with h1 | h1
    · exact (h.sr x hx).1 h1
    · have := (h.ren.row.lt x hx).2; omega
  · rcases hF rb hf with h1 | h1
    · exact h.sb h1
    · omega
  · rcases hF x hf with h1 | h1
    · exact (h.sm x hx).1 h1
    · have := (h.mays.lt x hx).2; omega
  · rcases hF x hx with h1 | h1
    · exact h.lf x h1
    · have := h.bel.size; omega
/-- the document's book is laid anew -/
theorem BkI.setR {L2 : List En} {rv' : Value} (h : BkI w0 wx C mb bb rb M L2 L ml v pl rv may) (hr : REn wx w0.heap.size rv' L2) (hs : ∀ x, rv'.ownBlock = some x → ¬ bkF bb mb v pl x ∧ x ≠ rb ∧ may.ownBlock ≠ some x) :
    BkI w0 ((wx.setCell ⟨rb, 0, none⟩ (.int .i64 (C : Int))).setCell ⟨rb, 1, none⟩ rv') C mb bb rb M L2 L2 ml v pl rv' may := by
  have hc : Chg (fun x => x = rb) wx ((wx.setCell ⟨rb, 0, none⟩ (.int .i64 (C : Int))).setCell ⟨rb, 1, none⟩ rv') := (Chg.setCell wx ⟨rb, 0, none⟩ _).trans (Chg.setCell _ ⟨rb, 1, none⟩ _) (fun x hx => .inl hx)
  refine ⟨h.book.chg hc (fun x hx hf => by subst hx; exact h.sb hf), h.laid, h.len, h.c4, ⟨hr.row.chg hc (fun x hx hf => (hs x hx).2.1 hf), hr.nil⟩, ?_, h.laid.ok, ?_, h.mays.chg hc (fun x hx hf => (h.sm x hx).2.1 hf), h.mlen, h.mnil, h.mn2, fun x hx => ⟨(hs x hx).1, (hs x hx).2.1⟩, h.sb, fun x hx => ⟨(h.sm x hx).1, (h.sm x hx).2.1, fun e => (hs x e).2.2 hx⟩, h.lo, h.lf, ?_⟩
  · exact h.book.pos
  · have hb := h.rbx
    simp [World.setCell, Array.getElem?_modify, hb]
  · exact (h.bel.setCell (p := ⟨rb, 0, none⟩) h.lo _).setCell (p := ⟨rb, 1, none⟩) h.lo _
/-- one more that may be -/
theorem BkI.addMay {x : My} {may' : Value} {o : Obj} (h : BkI w0 wx C mb bb rb M L L ml v pl rv may) (hoff : M.off = true) (hg : (wx.alloc o).grownBy wy may.ownBlock) (hown : wy.ownsRow wx.heap.size 33 2 may' (0 + 1) ([] ++ cellsMy x)) : BkI w0 wy C mb bb rb M L L [x] v pl rv may' := by
  have h1 := h.below ((Below.refl wx.heap.size wx).alloc (Nat.le_refl _) o)
  have hc : Chg (fun y => may.ownBlock = some y) (wx.alloc o) wy := grown_chg hg
  have hrow0 : OwnR wy wx.heap.size 33 2 cellsMy may' [x] := hown
  have hrow := hrow0.mono (base' := w0.heap.size) h.bel.size
  have hsz : (wx.alloc o).heap.size = wx.heap.size + 1 := by simp
  refine ⟨h1.book.chg hc (fun y hy hf => (h.sm y hy).1 hf), h.laid, h.len, h.c4, ⟨h1.ren.row.chg hc (fun y hy hf => (h.sm y hf).2.2 hy), h.ren.nil⟩, h.pos, h.ok, (hc.block rb (block_ltR h1.rbx) (fun hf => (h.sm rb hf).2.1 rfl)).trans h1.rbx, hrow, Nat.le_refl _, fun ho => absurd (ho.symm.trans hoff) (by decide), (fun e => by cases e), h.sr, h.sb, fun y hy => ?_, h.lo, h.lf, ?_⟩
  · have h2 := (hrow0.lt y hy).1
    refine ⟨fun hf => ?_, fun e => ?_, fun e => ?_⟩
    · have := h.book.F_lt y hf; omega
    · have := block_ltR h.rbx; omega
    · have := (h.ren.row.lt y e).2; omega
  · exact h1.bel.trans (hc.below h1.bel.size (fun y hy => (h.mays.lt y hy).1))
theorem MemAt.mono {w : World} {B B' : Nat} (h : MemAt w B mb v M) (hb : B' ≤ B) : MemAt w B' mb v M := ⟨h.box, h.row.mono hb, h.len, h.ne, h.pwb⟩
/-- the power is there again, the book is opened anew -/
theorem BkI.again {mb' bb' : Nat} {v' pl' : Value} {p : Int} {w1 : World} (h : BkI w0 wx C mb bb rb M L L ml v pl rv may) (h1 : MemAt w1 wx.heap.size mb' v' ⟨M.C, p, false⟩) (hmb : wx.heap.size ≤ mb') (hb1 : Below wx.heap.size wx w1)
    (h2 : BookAt wy w0.heap.size bb' mb' v' ⟨M.C, p, false⟩ pl' L) (hbb : w1.heap.size ≤ bb') (hpl : ∀ k, pl'.ownBlock = some k → w1.heap.size ≤ k) (hb2 : Below w1.heap.size w1 wy) :
    BkI w0 wy C mb' bb' rb ⟨M.C, p, false⟩ L L [] v' pl' rv (.slice none 0 0) := by
  have hb : Below wx.heap.size wx wy := hb1.trans (hb2.mono hb1.size)
  have hs := hb1.size
  have hF : ∀ x, bkF bb' mb' v' pl' x → wx.heap.size ≤ x := by
    rintro x ((hx | hx | hx) | hx)
    · omega
    · omega
    · exact (h1.row.lt x hx).1
    · have := hpl x hx; omega
  refine ⟨h2, h.laid, h.len, h.c4, h.ren.below hb, h.pos, h.ok, (hb.block _ (block_ltR h.rbx)).trans h.rbx, OwnR.nil _ _ _ _ _, Nat.zero_le _, fun _ => rfl, fun _ => rfl, fun x hx => ⟨fun hf => ?_, (h.sr x hx).2⟩, fun hf => ?_, (fun x hx => by cases hx), h.lo, fun x hx => ?_, h.bel.trans (hb.mono h.bel.size)⟩
  · have := (h.ren.row.lt x hx).2; have := hF x hf; omega
  · have := block_ltR h.rbx; have := hF rb hf; omega
  · have := hF x hx; have := h.bel.size; omega
/-- a block apart -/
structure Apt (w0 : World) (mb bb rb xb : Nat) (v pl rv may : Value) : Prop where
  f : ¬ bkF bb mb v pl xb
  r : xb ≠ rb
  rv : rv.ownBlock ≠ some xb
  my : may.ownBlock ≠ some xb
  lo : w0.heap.size ≤ xb
theorem BkI.fresh (h : BkI w0 wx C mb bb rb M Lb L ml v pl rv may) : Apt w0 mb bb rb wx.heap.size v pl rv may := by
  refine ⟨fun hf => Nat.lt_irrefl _ (h.book.F_lt _ hf), fun e => ?_, fun e => Nat.lt_irrefl _ (h.ren.row.lt _ e).2, fun e => Nat.lt_irrefl _ (h.mays.lt _ e).2, h.bel.size⟩
  have := block_ltR h.rbx
  omega
theorem BkI.other {xb : Nat} (h : BkI w0 wx C mb bb rb M Lb L ml v pl rv may) (ha : Apt w0 mb bb rb xb v pl rv may) (hc : Chg (fun x => x = xb) wx wy) : BkI w0 wy C mb bb rb M Lb L ml v pl rv may :=
  ⟨h.book.chg hc (fun x hx hf => by subst hx; exact ha.f hf), h.laid, h.len, h.c4, ⟨h.ren.row.chg hc (fun x hx hf => by subst hf; exact ha.rv hx), h.ren.nil⟩, h.pos, h.ok, (hc.block rb (block_ltR h.rbx) (fun e => ha.r e.symm)).trans h.rbx, h.mays.chg hc (fun x hx hf => by subst hf; exact ha.my hx), h.mlen, h.mnil, h.mn2, h.sr, h.sb, h.sm, h.lo, h.lf, h.bel.trans (hc.below h.bel.size (fun x hx => by rw [hx]; exact ha.lo))⟩
theorem Apt.step {xb : Nat} {er er2 : Int} {L2 L' : List En} {M' : Mm} {pl' : Value} (h : Apt w0 mb bb rb xb v pl rv may) (hx : xb < wx.heap.size) (k : StepB wx wy w0.heap.size bb mb v pl M L L2 er er2 M' pl' L') : Apt w0 mb bb rb xb v pl' rv may := by
  refine ⟨?_, h.r, h.rv, h.my, h.lo⟩
  rintro (hf | hf)
  · exact h.f (.inl hf)
  · rcases k.own with h1 | ⟨y, h1, h2⟩
    · exact h.f (.inr (h1 ▸ hf))
    · rw [h1] at hf
      obtain rfl : y = xb := Option.some.inj hf
      omega
theorem BkI.sepR {rv' : Value} {xb : Nat} (h : BkI w0 wx C mb bb rb M Lb L ml v pl rv may) (ha : Apt w0 mb bb rb xb v pl rv may) (hx : xb < wx.heap.size) (hr : rv'.ownBlock = rv.ownBlock ∨ ∀ x, rv'.ownBlock = some x → wx.heap.size ≤ x) :
    ∀ x, rv'.ownBlock = some x → ¬ bkF bb mb v pl x ∧ x ≠ rb ∧ may.ownBlock ≠ some x ∧ x ≠ xb := by
  intro x hxx
  rcases hr with hr | hr
  · rw [hr] at hxx
    exact ⟨(h.sr x hxx).1, (h.sr x hxx).2, fun e => (h.sm x e).2.2 hxx, fun e => ha.rv (by rw [← e]; exact hxx)⟩
  · have := hr x hxx
    refine ⟨fun hf => ?_, fun e => ?_, fun e => ?_, fun e => by omega⟩
    · have := h.book.F_lt x hf; omega
    · have := block_ltR h.rbx; omega
    · have := (h.mays.lt x e).2; omega
/-- behind a call of both -/
def StepR (w : World) (rb C xb mb bb : Nat) (M : Mm) (L : List En) (ml : List My) (v rv may : Value) (v19 v20 v21 v22 : Value) (wx : World) : Prop :=
  ∃ (er er2 nn kk : Int) (M' : Mm) (pl' : Value) (L' L2 : List En) (rv' : Value), v19 = .int .i64 er ∧ v20 = .int .i64 er2 ∧ v21 = .int .i64 nn ∧ v22 = .int .i64 kk ∧
    BkI w wx C mb bb rb M' L' L ml v pl' rv may ∧ wx.heap[xb]? = some (.cells #[.int .i64 (C : Int), rv'] 33) ∧ REn wx w.heap.size rv' L2 ∧
    (∀ x, rv'.ownBlock = some x → ¬ bkF bb mb v pl' x ∧ x ≠ rb ∧ may.ownBlock ≠ some x ∧ x ≠ xb) ∧ Apt w mb bb rb xb v pl' rv may ∧
    (er = 12 → M'.off = true ∧ L' = L ∧ nn = 0) ∧ (er ≠ 12 → L' = L2 ∧ er = er2 ∧ nn = kk ∧ M.off = false)
/-- the program's call, then the document's, then x is written -/
theorem StepR.mk' {wz wq : World} {xb : Nat} {er er2 nn kk : Int} {L2 L' : List En} {M' : Mm} {pl' rv' x0 x1 : Value}
    (h : BkI w0 wx C mb bb rb M L L ml v pl rv may) (ha : Apt w0 mb bb rb xb v pl rv may) (hx : wx.heap[xb]? = some (.cells #[x0, x1] 33))
    (k : StepB wx wz w0.heap.size bb mb v pl M L L2 er er2 M' pl' L') (hq : Below wz.heap.size wz wq) (hr : REn wq w0.heap.size rv' L2) (ho : rv'.ownBlock = rv.ownBlock ∨ ∀ x, rv'.ownBlock = some x → wz.heap.size ≤ x)
    (h0 : er = 12 → nn = 0) (h1 : er ≠ 12 → nn = kk) :
    StepR w0 rb C xb mb bb M L ml v rv may (.int .i64 er) (.int .i64 er2) (.int .i64 nn) (.int .i64 kk) ((wq.setCell ⟨xb, 0, none⟩ (.int .i64 (C : Int))).setCell ⟨xb, 1, none⟩ rv') := by
  have hz := h.step k
  have hxl := block_ltR hx
  have hxz : xb < wz.heap.size := Nat.lt_of_lt_of_le hxl k.chg.size
  have ha' := ha.step hxl k
  have hs := hz.sepR ha' hxz ho
  have hc : Chg (fun x => x = xb) wq ((wq.setCell ⟨xb, 0, none⟩ (.int .i64 (C : Int))).setCell ⟨xb, 1, none⟩ rv') := (Chg.setCell wq ⟨xb, 0, none⟩ _).trans (Chg.setCell _ ⟨xb, 1, none⟩ _) (fun x hx => .inl hx)
  have hxq := (hq.block xb hxz).trans ((k.chg.block xb hxl ha.f).trans hx)
  refine ⟨er, er2, nn, kk, M', pl', L', L2, rv', rfl, rfl, rfl, rfl, (hz.below hq).other ha' hc, ?_, ⟨hr.row.chg hc (fun x hx hf => (hs x hx).2.2.2 hf), hr.nil⟩, hs, ha', fun e => ⟨(k.offs e).1, (k.offs e).2, h0 e⟩, fun e => ⟨(k.on e).2.1, (k.on e).2.2, h1 e, ?_⟩⟩
  · simp [World.setCell, Array.getElem?_modify, hxq]
  · cases hm : M.off with
    | false => rfl
    | true => exact absurd (k.dead hm) e
end
end Go.Proofs.Ytbiipeapcclbkaa
