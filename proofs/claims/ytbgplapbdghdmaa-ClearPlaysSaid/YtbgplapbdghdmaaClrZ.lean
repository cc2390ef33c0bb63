/- clear, the document's own: Do. -/
import Derived.Test.YtbgplapbdghdmaaClrY
import Derived.Deep.RegionWith
namespace Go.Proofs.Ytbgplapbdghdmaa
open Go.RowKit
set_option linter.unusedVariables false
set_option linter.unusedSimpArgs false
set_option maxRecDepth 100000

variable {w w' : World} {G : Nat → Prop} {r : Nat} {S : Clr} {vL vO : Value} {ks : List (Kse × Value)} {os : List Ow}
def dedV (d : Ded) : Value := .agg #[.int .i64 d.what, .int .i64 d.day, .int .i64 d.amt]
def boxD (d : Ded) : Obj := .cells #[.int .i64 d.what, .int .i64 d.day, .int .i64 d.amt] 60
theorem boxDC {w : World} {g : Nat} {d : Ded} (h : w.heap[g]? = some (boxD d)) : w.cell? ⟨g, 0, none⟩ = some (.int .i64 d.what) ∧ w.cell? ⟨g, 1, none⟩ = some (.int .i64 d.day) ∧ w.cell? ⟨g, 2, none⟩ = some (.int .i64 d.amt) := by
  unfold boxD at h
  refine ⟨?_, ?_, ?_⟩ <;> simp [World.cell?, h]
/-- On over the whole of the document's Clear -/
theorem rOnC (h : RIn w G r S vL vO ks os) (hok : okS S) (hokD : okDs S.L) {i : Nat} {x : Kse × Value} (hx : ks[i]? = some x) (day : Int) (hday : 0 ≤ day ∧ day ≤ 65535) :
    ∃ g, vL.ownBlock = some g ∧ Calls Try.prog 37 #[.pointer (some ⟨r, 0, none⟩), .pointer (some ⟨g, i * 7, none⟩), .int .i64 day] w fun e w' => e = .returned (caseV (onC S.D x.1.c day)) ∧ Below w.heap.size w w' := by
  have hxL : S.L[i]? = some x.1 := by rw [← h.lst, List.getElem?_map, hx]; rfl
  have hmem := List.mem_of_getElem? hxL
  obtain ⟨o1, o2, o3⟩ := hok.each x.1 hmem
  have hd := hokD x.1 hmem
  have hb := of_decide_eq_false o2
  rcases h.row.form.2 with hn | ⟨g, cap, hv, _, hgl⟩
  · rw [hn] at hx; cases hx
  · subst hv
    refine ⟨g, rfl, ?_⟩
    rw [o3]
    rw [o3] at o1
    exact rOn_loop r g i S.D S.last day _ vO x.2 x.1.p x.1.ds w h.blk hok.D (by rw [OwnR.cell cellsK_len h.row i x hx 4 (by omega)]; rfl) (by rw [OwnR.cell cellsK_len h.row i x hx 5 (by omega)]; rfl) (by rw [OwnR.cell cellsK_len h.row i x hx 6 (by omega)]; rfl) hgl
      (h.deeds x (List.mem_of_getElem? hx)) hd.len hd.2 (by omega) hday o1
theorem infoD : (Try.prog.info? 60).map (fun i => (i.zero, i.size, i.bytes)) = some (some (.agg #[.int .i64 0, .int .i64 0, .int .i64 0]), 3, 24) := by kernel_rfl
/-- a deed more at case i -/
theorem RIn.deeded (h : RIn w G r S vL vO ks os) {i g gL : Nat} {cap : Nat} {x : Kse × Value} {d : Ded} {c' : Cse} {V : World} (hx : ks[i]? = some x) (hgL : vL.ownBlock = some gL)
    (hS : ∀ b, b < w.heap.size → V.heap[b]? = w.heap[b]?) (hsz : w.heap.size ≤ V.heap.size) (hO : OwnR V 0 60 3 cellsDd (.slice (some ⟨g, 0, none⟩) (x.1.ds.length + 1) cap) (x.1.ds ++ [d])) (hg : w.heap.size ≤ g) (hbud : sumB S.L ≤ sumB (S.L.set i ⟨x.1.p, x.1.ds ++ [d], c'⟩)) :
    RIn (V.setCell ⟨gL, i * 7 + 6, none⟩ (.slice (some ⟨g, 0, none⟩) (x.1.ds.length + 1) cap)) (fun y => G y ∨ y = g) r { S with L := S.L.set i ⟨x.1.p, x.1.ds ++ [d], c'⟩ } vL vO (ks.set i (⟨x.1.p, x.1.ds ++ [d], c'⟩, .slice (some ⟨g, 0, none⟩) (x.1.ds.length + 1) cap)) os := by
  have hV : RIn V G r S vL vO ks os := h.keep hsz (fun y hy => hS y (h.glt y hy))
  have hgl := oR_lt h.row hgL
  have hgn : gL ≠ g := by omega
  have hix : i < ks.length := (List.getElem?_eq_some_iff.1 hx).1
  refine { blk := hV.blk.of_block (Below.heap_setCell _ _ _ _ (fun e => h.ne_row (by rw [hgL]; exact congrArg some e.symm))), lst := ?_, row := ?_, deeds := ?_, owed := hV.owed.other (a := ⟨gL, i * 7 + 6, none⟩) (tags_ne hV.row hV.owed (by decide) hgL) _, sums := h.sums, pos := h.pos, cnt := Int.le_trans h.cnt hbud, gr := .inl h.gr, gL := fun y hy => .inl (h.gL y hy), gO := fun y hy => .inl (h.gO y hy), gD := ?_, glt := ?_, nod := ?_ }
  · rw [List.map_set, h.lst]
  · rcases hV.row.2 with ⟨h0, _⟩ | ⟨g', cap', cur, e1, e2, e3, e4, e5, e6, e7⟩
    · rw [h0] at hgL; cases hgL
    · subst e1
      obtain rfl : g' = gL := Option.some.inj hgL
      have hlen : (ks.set i (⟨x.1.p, x.1.ds ++ [d], c'⟩, .slice (some ⟨g, 0, none⟩) (x.1.ds.length + 1) cap)).length = ks.length := List.length_set
      have hcell : (V.setCell ⟨g', i * 7 + 6, none⟩ (.slice (some ⟨g, 0, none⟩) (x.1.ds.length + 1) cap)).heap[g']? = some (.cells (cur.setIfInBounds (i * 7 + 6) (.slice (some ⟨g, 0, none⟩) (x.1.ds.length + 1) cap)) 91 (0, 0)) := by simp [World.setCell, Array.getElem?_modify, e3]
      refine ⟨by rw [rowC_length cellsK_len], .inr ⟨g', cap', _, by rw [hlen], Nat.zero_le _, hcell, by rw [hlen]; exact e4, e5, by simp [e6], ?_⟩⟩
      rw [hlen]
      have hcl : i * 7 + 6 < ks.length * 7 := by omega
      have e8 : (cur.setIfInBounds (i * 7 + 6) (.slice (some ⟨g, 0, none⟩) (x.1.ds.length + 1) cap)).toList.take (ks.length * 7) = (rowC cellsK ks).set (i * 7 + 6) (.slice (some ⟨g, 0, none⟩) (x.1.ds.length + 1) cap) := by
        rw [Array.toList_setIfInBounds, List.take_set, e7]
      rw [e8, rowC_set cellsK_len ks i _ hix]
      apply List.ext_getElem?
      intro j
      have hrl := rowC_length cellsK_len ks
      by_cases hj : j = i * 7 + 6
      · subst hj
        rw [List.getElem?_set_self (by rw [hrl]; exact hcl), List.append_assoc, List.getElem?_append_right (by rw [List.length_take, hrl]; omega), List.length_take, hrl, Nat.min_eq_left (by omega), List.getElem?_append_left (by rw [cellsK_len]; omega), show i * 7 + 6 - i * 7 = 6 by omega]
        rfl
      · rw [List.getElem?_set_ne (by omega)]
        by_cases hj1 : j < i * 7
        · rw [List.append_assoc, List.getElem?_append_left (by rw [List.length_take, hrl]; omega), List.getElem?_take_of_lt hj1]
        · by_cases hj2 : j < (i + 1) * 7
          · rw [List.append_assoc, List.getElem?_append_right (by rw [List.length_take, hrl]; omega), List.length_take, hrl, Nat.min_eq_left (by omega), List.getElem?_append_left (by rw [cellsK_len]; omega)]
            have := rowC_at cellsK_len ks i (j - i * 7) x hx (by omega)
            rw [show i * 7 + (j - i * 7) = j by omega] at this
            rw [this]
            obtain ⟨q, hq⟩ : ∃ q, q = j - i * 7 := ⟨_, rfl⟩
            rw [← hq]
            have hq6 : q < 6 := by omega
            match q, hq6 with
            | 0, _ => rfl
            | 1, _ => rfl
            | 2, _ => rfl
            | 3, _ => rfl
            | 4, _ => rfl
            | 5, _ => rfl
          · rw [List.getElem?_append_right (by rw [List.length_append, List.length_take, hrl, cellsK_len]; omega), List.length_append, List.length_take, hrl, cellsK_len, Nat.min_eq_left (by omega), List.getElem?_drop]
            congr 1
            omega
  · intro k hk
    rcases List.mem_or_eq_of_mem_set hk with hk | rfl
    · exact (hV.deeds k hk).other (a := ⟨gL, i * 7 + 6, none⟩) (tags_ne hV.row (hV.deeds k hk) (by decide) hgL) _
    · exact hO.other (a := ⟨gL, i * 7 + 6, none⟩) (fun e => hgn (Option.some.inj e).symm) _
  · intro k hk y hy
    rcases List.mem_or_eq_of_mem_set hk with hk | rfl
    · exact .inl (h.gD k hk y hy)
    · exact .inr (Option.some.inj hy).symm
  · intro y hy
    have e : (V.setCell ⟨gL, i * 7 + 6, none⟩ (.slice (some ⟨g, 0, none⟩) (x.1.ds.length + 1) cap)).heap.size = V.heap.size := by simp [World.setCell]
    rw [e]
    rcases hy with hy | rfl
    · have := h.glt y hy; omega
    · exact oR_lt hO rfl
  · intro k hk
    rcases List.mem_or_eq_of_mem_set hk with hk | rfl
    · exact h.nod k hk
    · intro e
      have : (x.1.ds ++ [d]) = [] := e
      simp at this
theorem cell_far {W V1 : World} {g o : Nat} {v : Value} (hb : Below W.heap.size W V1) (hg : g < W.heap.size) (h : W.cell? ⟨g, o, none⟩ = some v) : V1.cell? ⟨g, o, none⟩ = some v := (hb.cell (p := ⟨g, o, none⟩) hg).trans h
theorem froz_far {W V1 : World} {g o : Nat} (hb : Below W.heap.size W V1) (hg : g < W.heap.size) (h : W.frozen? ⟨g, o, none⟩ = false) : V1.frozen? ⟨g, o, none⟩ = false := (hb.frozen (p := ⟨g, o, none⟩) hg).trans h
/-- a debt more -/
theorem RIn.oweded (h : RIn w G r S vL vO ks os) {p : Pst} {n : Int} {V : World} {g cap : Nat} (hB : RB V r S.D vL S.last (.slice (some ⟨g, 0, none⟩) (os.length + 1) cap)) (hO : OwnR V 0 46 3 cellsO (.slice (some ⟨g, 0, none⟩) (os.length + 1) cap) (os ++ [owD p n])) (hat : vO.ownBlock = some g ∨ w.heap.size ≤ g) (hC : Chg (fun x => x = r ∨ vO.ownBlock = some x) w V)
    (hcnt : 1000000000000 * ((os.length : Int) + 1) ≤ sumB S.L) : RIn V (fun y => G y ∨ y = g) r { S with ow := owU S.ow p n } vL (.slice (some ⟨g, 0, none⟩) (os.length + 1) cap) ks (os ++ [owD p n]) := by
  have hs := hC.size
  have hkeep : ∀ x, x < w.heap.size → x ≠ r → vO.ownBlock ≠ some x → V.heap[x]? = w.heap[x]? := fun x hx h1 h2 => hC.block x hx (fun e => by rcases e with e | e; exact h1 e; exact h2 e)
  refine { blk := hB, lst := h.lst, row := h.row.of_block (fun x hx => hkeep x (oR_lt h.row hx) (fun e => h.ne_row (e ▸ hx)) (tags_ne h.row h.owed (by decide) hx)), deeds := fun k hk => (h.deeds k hk).of_block (fun x hx => hkeep x (oR_lt (h.deeds k hk) hx) (fun e => h.ne_deed hk (e ▸ hx)) (tags_ne (h.deeds k hk) h.owed (by decide) hx)), owed := hO, sums := fun a b hab => sumO_owD os p n a b S.ow hab (h.sums a b hab), pos := ?_, cnt := ?_, gr := .inl h.gr, gL := fun y hy => .inl (h.gL y hy), gO := fun y hy => .inr (Option.some.inj hy).symm, gD := fun k hk y hy => .inl (h.gD k hk y hy), glt := ?_, nod := h.nod }
  · intro o ho
    rcases List.mem_append.1 ho with ho | ho
    · exact h.pos o ho
    · obtain rfl := List.mem_singleton.1 ho
      unfold owD
      split
      · show 0 ≤ -n; omega
      · show 0 ≤ n; omega
  · rw [List.length_append]
    show 1000000000000 * ((os.length + 1 : Nat) : Int) ≤ sumB S.L
    omega
  · intro y hy
    rcases hy with hy | rfl
    · have := h.glt y hy; omega
    · exact oR_lt hO rfl
end Go.Proofs.Ytbgplapbdghdmaa
