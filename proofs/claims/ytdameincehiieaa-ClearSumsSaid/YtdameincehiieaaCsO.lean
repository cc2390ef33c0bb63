/- ClearSums: the start, a round of what was cut. -/
import Derived.Test.YtdameincehiieaaCsN
import Derived.Deep.RegionHeld3
import Derived.Deep.DeepCutAuto
import Derived.Deep.CutBlock
namespace Go.Proofs.Ytdameincehiieaa
open Go.RowKit Go.WideMaps Go.Maps
set_option linter.unusedVariables false
set_option linter.unusedSimpArgs false
set_option maxRecDepth 100000

/-- the law's four maps, and the Clear, on day dv -/
def CsA (w wr : World) (b : Nat) (B : Bks) (dv : Int) : Prop := ∃ (F : Nat → Prop) (S : Clr) (H : Hld), dv = S.last ∧ CsW w wr F b S B H ∧ CsV S H
theorem csStart {w w1 : World} {F : Nat → Prop} {b : Nat} {D : Dys} (hC : CAt w1 F b (newS D)) (hb : Below w.heap.size w w1) (hF : ∀ x, F x → w.heap.size ≤ x) (hg : daysBad D = false) :
    CsA w ((((w1.alloc (.map #[] 0)).alloc (.map #[] 0)).alloc (.map #[] 0)).alloc (.map #[] 0)) b ⟨w1.heap.size, w1.heap.size + 1, w1.heap.size + 1 + 1, w1.heap.size + 1 + 1 + 1⟩ 0 := by
  have hs := hb.size
  have q1 : Below w1.heap.size w1 (w1.alloc (.map #[] 0)) := (Below.refl _ _).alloc (Nat.le_refl _) _
  have q2 : Below (w1.alloc (.map #[] 0)).heap.size (w1.alloc (.map #[] 0)) ((w1.alloc (.map #[] 0)).alloc (.map #[] 0)) := (Below.refl _ _).alloc (Nat.le_refl _) _
  have q3 : Below ((w1.alloc (.map #[] 0)).alloc (.map #[] 0)).heap.size ((w1.alloc (.map #[] 0)).alloc (.map #[] 0)) (((w1.alloc (.map #[] 0)).alloc (.map #[] 0)).alloc (.map #[] 0)) := (Below.refl _ _).alloc (Nat.le_refl _) _
  have q4 : Below (((w1.alloc (.map #[] 0)).alloc (.map #[] 0)).alloc (.map #[] 0)).heap.size (((w1.alloc (.map #[] 0)).alloc (.map #[] 0)).alloc (.map #[] 0)) ((((w1.alloc (.map #[] 0)).alloc (.map #[] 0)).alloc (.map #[] 0)).alloc (.map #[] 0)) := (Below.refl _ _).alloc (Nat.le_refl _) _
  have s1 : (w1.alloc (.map #[] 0)).heap.size = w1.heap.size + 1 := by simp
  have s2 : ((w1.alloc (.map #[] 0)).alloc (.map #[] 0)).heap.size = w1.heap.size + 1 + 1 := by simp
  have s3 : (((w1.alloc (.map #[] 0)).alloc (.map #[] 0)).alloc (.map #[] 0)).heap.size = w1.heap.size + 1 + 1 + 1 := by simp
  have qa : Below w1.heap.size w1 ((((w1.alloc (.map #[] 0)).alloc (.map #[] 0)).alloc (.map #[] 0)).alloc (.map #[] 0)) := ((q1.trans (q2.mono (by omega))).trans (q3.mono (by omega))).trans (q4.mono (by omega))
  have m1 := GMap.made rdP 60 w1
  have m2 := GMap.made rdI 60 (w1.alloc (.map #[] 0))
  have m3 := GMap.made rdC 60 ((w1.alloc (.map #[] 0)).alloc (.map #[] 0))
  have m4 := GMap.made rdI 61 (((w1.alloc (.map #[] 0)).alloc (.map #[] 0)).alloc (.map #[] 0))
  rw [s1] at m2
  rw [s2] at m3
  rw [s3] at m4
  have hlt := hC.ltS
  refine ⟨F, newS D, ⟨fun _ _ => none, fun _ _ => none, fun _ _ => none, fun _ _ => none⟩, rfl, ⟨hC.keepS qa.size (fun x hx => qa.block x (hlt x hx)), ⟨_, ((m1.below q2).below q3).below q4⟩, ⟨_, (m2.below q3).below q4⟩, ⟨_, m3.below q4⟩, ⟨_, m4⟩, ?_, ?_, hF, ?_, hb.trans (qa.mono hs)⟩, ⟨CsI.start D (newS_ok hg), fun x y h => (by cases h), fun x y h => (by cases h)⟩⟩
  · intro x hx
    have := hlt x hx
    dsimp only
    omega
  · dsimp only; omega
  · dsimp only; omega
theorem oRltS {α : Type} {w : World} {base : Nat} {e : TypeId} {m : Nat} {c : α → List Value} {v : Value} {l : List α} (h : OwnR w base e m c v l) : ∀ x, v.ownBlock = some x → x < w.heap.size := fun x hx => (h.lt x hx).2
theorem own_keepS {α : Type} {w w' : World} {base : Nat} {e : TypeId} {m : Nat} {c : α → List Value} {v : Value} {l : List α} (h : OwnR w base e m c v l) (hk : ∀ x, v.ownBlock = some x → w'.heap[x]? = w.heap[x]?) : OwnR w' base e m c v l := by
  refine ⟨h.1, ?_⟩
  rcases h.2 with h0 | ⟨g, cap, cur, e1, e2, e3, e4⟩
  · exact .inl h0
  · exact .inr ⟨g, cap, cur, e1, e2, by rw [hk g (by rw [e1]; rfl)]; exact e3, e4⟩
/-- a round of what was cut -/
theorem cut_round {w wr : World} {F : Nat → Prop} {b : Nat} {S S0 : Clr} {B : Bks} {H : Hld} {k base : Nat} {v : Value} {o : Ow} {cl : List Ow} (hcl0 : cl = cutL S0.ow) (hV : CsV S0 H) (hW : CsW w wr F b S B { H with O := (cl.take k).foldl addO H.O }) (ho : cl[k]? = some o)
    (hr : OwnR wr base 52 3 cellsO v cl) (hn : v.ownBlock ≠ some B.o) :
    ∃ (v0 : Value) (st : Nat) (o1 o2 : Obj) (n : Int), (Instr.lookup 58 (.map (some B.o)) (.agg #[.int .i64 o.a, .int .i64 o.b]) false).run Try.prog (wr.alloc (.cells #[.int .i64 o.a, .int .i64 o.b, .int .i64 o.n] 52)).drew = .ok (.int .i64 n) (wr.alloc (.cells #[.int .i64 o.a, .int .i64 o.b, .int .i64 o.n] 52)).drew ∧
      (Instr.mapEntry 58 (.map (some B.o)) (.agg #[.int .i64 o.a, .int .i64 o.b])).run Try.prog (wr.alloc (.cells #[.int .i64 o.a, .int .i64 o.b, .int .i64 o.n] 52)).drew = .ok (.tuple #[v0, .int .i64 st]) (ChangeMaps.setBlock (wr.alloc (.cells #[.int .i64 o.a, .int .i64 o.b, .int .i64 o.n] 52)).drew B.o o1) ∧
      (Instr.lookup 58 (.map (some B.o)) (.agg #[.int .i64 o.a, .int .i64 o.b]) false).run Try.prog (ChangeMaps.setBlock (wr.alloc (.cells #[.int .i64 o.a, .int .i64 o.b, .int .i64 o.n] 52)).drew B.o o1) = .ok (.int .i64 n) (ChangeMaps.setBlock (wr.alloc (.cells #[.int .i64 o.a, .int .i64 o.b, .int .i64 o.n] 52)).drew B.o o1) ∧
      (Instr.entryStore 58 (.map (some B.o)) (.int .i64 st) (.int .i64 (n + o.n))).run Try.prog (ChangeMaps.setBlock (wr.alloc (.cells #[.int .i64 o.a, .int .i64 o.b, .int .i64 o.n] 52)).drew B.o o1) = .ok () (ChangeMaps.setBlock (ChangeMaps.setBlock (wr.alloc (.cells #[.int .i64 o.a, .int .i64 o.b, .int .i64 o.n] 52)).drew B.o o1) B.o o2) ∧
      IntKind.i64.wrap (n + o.n) = n + o.n ∧ CsW w (ChangeMaps.setBlock (ChangeMaps.setBlock (wr.alloc (.cells #[.int .i64 o.a, .int .i64 o.b, .int .i64 o.n] 52)).drew B.o o1) B.o o2) F b S B { H with O := (cl.take (k + 1)).foldl addO H.O } ∧
      OwnR (ChangeMaps.setBlock (ChangeMaps.setBlock (wr.alloc (.cells #[.int .i64 o.a, .int .i64 o.b, .int .i64 o.n] 52)).drew B.o o1) B.o o2) base 52 3 cellsO v cl ∧
      Chg (fun i => i = B.o) wr (ChangeMaps.setBlock (ChangeMaps.setBlock (wr.alloc (.cells #[.int .i64 o.a, .int .i64 o.b, .int .i64 o.n] 52)).drew B.o o1) B.o o2) := by
  have hin := mem_cutL (f := S0.ow) (hcl0 ▸ List.mem_of_getElem? ho)
  have hroom1 := hV.room k o.a o.b
  have hroom2 := hV.room (k + 1) o.a o.b
  have hmem : ∀ o' ∈ cl, 1 ≤ o'.a ∧ o'.a ≤ 99 ∧ 1 ≤ o'.b ∧ o'.b ≤ 99 := fun o' h' => by
    have := mem_cutL (f := S0.ow) (hcl0 ▸ h')
    exact ⟨this.1, this.2.1, this.2.2.1, this.2.2.2.1⟩
  rw [← hcl0] at hroom1 hroom2
  clear hcl0
  have hts : cl.take (k + 1) = cl.take k ++ [o] := by
    obtain ⟨hk, he⟩ := List.getElem?_eq_some_iff.1 ho
    rw [List.take_succ_eq_append_getElem hk, he]
  have hks : ∀ o' ∈ cl.take k, 1 ≤ o'.a ∧ o'.a ≤ 99 ∧ 1 ≤ o'.b ∧ o'.b ≤ 99 := fun o' h' => hmem o' (List.mem_of_mem_take h')
  rw [hts, List.foldl_append] at hroom2
  rw [hts, List.foldl_append]
  have hkeys := addO_keys (cl.take k) H.O hV.ok hks
  generalize (cl.take k).foldl addO H.O = O at *
  have hB : Below wr.heap.size wr (wr.alloc (.cells #[.int .i64 o.a, .int .i64 o.b, .int .i64 o.n] 52)) := (Below.refl _ _).alloc (Nat.le_refl _) _
  have hW1 := hW.below hB
  obtain ⟨ks, hM⟩ := hW1.mo
  have hsm := owed_small hM hkeys
  have hmx : 10000 < maxLen := by decide
  have e2 : (List.foldl addO O [o] o.a o.b).getD 0 = (O o.a o.b).getD 0 + o.n := by
    show (addO O o o.a o.b).getD 0 = _
    unfold addO; rw [upd2_at]; rfl
  rw [e2] at hroom2
  obtain ⟨v0, st, o1, o2, t1, t2, t3, t4, t5, t6⟩ := up_tail keyA Try.underlying58 B.o O ks o.a o.b ((O o.a o.b).getD 0 + o.n) _ hM (by omega) ⟨by omega, by omega⟩ ⟨by omega, by omega⟩
  have hlt := oRltS hr
  refine ⟨v0, st, o1, o2, (O o.a o.b).getD 0, t1, t2, t3, t4, ?_, hW1.putO t5 t6, own_keepS hr (fun x hx => ?_), (Chg.of_below _ hB).trans t6 (fun x hx => .inl hx)⟩
  · rw [IntKind.wrap_i64]; omega
  · have hxl := hlt x hx
    have hne : x ≠ B.o := fun e => hn (e ▸ hx)
    exact (t6.block x (Nat.lt_of_lt_of_le hxl hB.size) hne).trans (hB.block x hxl)
end Go.Proofs.Ytdameincehiieaa
