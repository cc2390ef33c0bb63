/- When two states of a card, and two tellings, are the same. (Made by drafts/genCdE.py.) -/
import Derived.Test.YtajkbkljonejnaaGreatDoorM15
import Derived.Test.YtajkbkljonejnaaGreatDoorM14
namespace Go.Proofs.YtajkbkljonejnaaGreatDoor
open Go.RowKit
set_option linter.unusedVariables false
set_option linter.unusedSimpArgs false
set_option maxRecDepth 100000
theorem toList_injK {a b : ByteArray} (h : a.toList = b.toList) : a = b := by
  have hb : ∀ z : ByteArray, z.toList = z.data.toList := fun z => Lib.toList_data z
  rw [hb, hb] at h; exact ByteArray.ext (Array.toList_inj.1 h)
def valT (k : Ks) : Value := .agg #[.int .i64 k.count, .int .i64 k.last, .int .i64 k.spent, .int .i64 k.run, .int .i64 k.left, .int .i64 k.orders, .bool k.blocked, .bool k.owing, .int .i64 k.purse, .int .i64 k.one, .int .i64 k.runs, .int .i64 k.version]
end Go.Proofs.YtajkbkljonejnaaGreatDoor
namespace Go.Proofs.YtajkbkljonejnaaGreatDoor
set_option linter.unusedVariables false
set_option linter.unusedSimpArgs false
set_option maxRecDepth 100000
theorem getD_of {α : Type} {l : List α} {i : Nat} {d x : α} (h : l[i]? = some x) : l.getD i d = x := by
  rw [List.getD_eq_getElem?_getD, h]; rfl
theorem byteAt_hdK1 (sd : Nat) (h : sd < 16) : byteAt (hdK sd) 1 = sd := by
  rcases sixteen_cases sd h with rfl | rfl | rfl | rfl | rfl | rfl | rfl | rfl | rfl | rfl | rfl | rfl | rfl | rfl | rfl | rfl <;> decide
theorem byteAt_hdK0 (sd : Nat) : byteAt (hdK sd) 0 = 1 := rfl
theorem Lies.headOf {M : Mm} {sd : Nat} {H : Nat → ByteArray} (h : Lies M sd H) : headOf M = hdK sd := getD_of h.head
theorem Lies.sideOf {M : Mm} {sd : Nat} {H : Nat → ByteArray} (h : Lies M sd H) : sideOf M = sd := by
  unfold Proofs.YtajkbkljonejnaaGreatDoor.sideOf
  rw [h.headOf, byteAt_hdK1 sd h.lt]
theorem Lies.found {M : Mm} {sd : Nat} {H : Nat → ByteArray} (h : Lies M sd H) (i : Nat) (hi : i < 4) : foundC M i = H i := by
  unfold foundC
  rw [h.sideOf]; exact getD_of (h.part i hi)
theorem Bare.headOf {M : Mm} (h : Bare M) : byteAt (headOf M) 0 = 0 := by
  have : Proofs.YtajkbkljonejnaaGreatDoor.headOf M = zsK 16 := getD_of h.head; rw [this]; rfl
theorem readK_congr {A B : Nat → ByteArray} (h : ∀ i, i < 4 → A i = B i) : readK A = readK B := by
  unfold readK
  rw [h 0 (by decide), h 1 (by decide), h 2 (by decide), h 3 (by decide)]
theorem openK_holds {K0 K : Ks} {M : Mm} (hK : OkK K) (h : HoldsK K0 M K) : openK K0 M = K := by
  unfold openK
  rcases h with ⟨sd, h⟩ | ⟨h, e⟩
  · rw [h.headOf, byteAt_hdK0, if_pos rfl, readK_congr (B := cK K) (fun i hi => h.found i hi), readK_cK hK]
  · rw [h.headOf, if_neg (by decide), e]
def StOk (K0 : Ks) (M : Mm) (sd : Nat) (H : Nat → ByteArray) (K : Ks) : Prop := (Lies M sd H ∧ ∀ i, i < 4 → H i = cK K i) ∨ (Bare M ∧ sd = 0 ∧ H = (fun _ => ⟨#[]⟩) ∧ K = K0)
theorem StOk.len {K0 : Ks} {M : Mm} {sd : Nat} {H : Nat → ByteArray} {K : Ks} (h : StOk K0 M sd H K) : 32 ≤ M.C.length ∧ sd < 16 ∧ ∀ c ∈ M.C, c.size = 16 := by
  rcases h with ⟨h, _⟩ | ⟨h, e, _⟩
  · exact ⟨h.len, h.lt, h.sz⟩
  · exact ⟨h.len, by omega, h.sz⟩
theorem Lies.congr {M : Mm} {sd : Nat} {H N : Nat → ByteArray} (h : Lies M sd H) (e : ∀ i, i < 4 → H i = N i) : Lies M sd N := ⟨h.len, h.sz, h.lt, h.head, fun i hi => by rw [← e i hi]; exact h.part i hi⟩
theorem StOk.holds {K0 : Ks} {M : Mm} {sd : Nat} {H : Nat → ByteArray} {K : Ks} (h : StOk K0 M sd H K) : HoldsK K0 M K := by
  rcases h with ⟨h, e⟩ | ⟨h, _, _, e⟩
  · exact .inl ⟨sd, h.congr e⟩
  · exact .inr ⟨h, e⟩
theorem HoldsK.again {K0 : Ks} {M : Mm} {K : Ks} (h : HoldsK K0 M K) (p : Int) (b : Bool) : HoldsK K0 ⟨M.C, p, b⟩ K := by
  rcases h with ⟨sd, h⟩ | ⟨h, e⟩
  · exact .inl ⟨sd, h.len, h.sz, h.lt, h.head, h.part⟩
  · exact .inr ⟨⟨h.len, h.sz, h.head⟩, e⟩
theorem HoldsK.stOk {K0 : Ks} {M : Mm} {K : Ks} (h : HoldsK K0 M K) : StOk K0 M (if byteAt (headOf M) 0 = 1 then sideOf M else 0) (if byteAt (headOf M) 0 = 1 then foundC M else fun _ => ⟨#[]⟩) K := by
  rcases h with ⟨sd, h⟩ | ⟨h, e⟩
  · rw [h.headOf, byteAt_hdK0, if_pos rfl, if_pos rfl, h.sideOf]; exact .inl ⟨h.congr (fun i hi => (h.found i hi).symm), fun i hi => h.found i hi⟩
  · rw [h.headOf, if_neg (by decide), if_neg (by decide)]; exact .inr ⟨h, rfl, rfl, e⟩
theorem HoldsK.side {K0 : Ks} {M : Mm} {K : Ks} (h : HoldsK K0 M K) (hb : byteAt (headOf M) 0 = 1) : sideOf M < 16 := by
  rcases h with ⟨sd, h⟩ | ⟨h, e⟩
  · rw [h.sideOf]; exact h.lt
  · rw [h.headOf] at hb; cases hb
theorem HoldsK.len {K0 : Ks} {M : Mm} {K : Ks} (h : HoldsK K0 M K) : 32 ≤ M.C.length ∧ ∀ c ∈ M.C, c.size = 16 := by
  rcases h with ⟨sd, h⟩ | ⟨h, e⟩
  · exact ⟨h.len, h.sz⟩
  · exact ⟨h.len, h.sz⟩
theorem StOk.cut {K0 : Ks} {M : Mm} {sd : Nat} {H : Nat → ByteArray} {K N : Ks} (h : StOk K0 M sd H K) (hN : OkK N) (ho : (wsM M sd H (cK N)).1.off = true) : HoldsK K0 (wsM M sd H (cK N)).1 K := by
  rcases h with ⟨h, e⟩ | ⟨h, e1, e2, e⟩
  · exact .inl ⟨sd, (h.cut (cK_size hN) ho).congr e⟩
  · subst e1; subst e2; exact .inr ⟨h.cut (cK_size hN) ho, e⟩
theorem StOk.done {K0 : Ks} {M : Mm} {sd : Nat} {H : Nat → ByteArray} {K N : Ks} (h : StOk K0 M sd H K) (hN : OkK N) (ho : (wsM M sd H (cK N)).1.off = false) : StOk K0 (wsM M sd H (cK N)).1 (wsM M sd H (cK N)).2 (cK N) N := by
  rcases h with ⟨h, e⟩ | ⟨h, e1, e2, e⟩
  · exact .inl ⟨h.done (cK_size hN) ho, fun _ _ => rfl⟩
  · subst e1; subst e2; exact .inl ⟨h.done (cK_size hN) ho, fun _ _ => rfl⟩
theorem wrC_never {M : Mm} (i : Nat) (s : ByteArray) (hp : M.pw < 0) (ho : M.off = false) : (wrC M i s).pw < 0 ∧ (wrC M i s).off = false := by
  unfold wrC
  rw [if_neg (by rw [ho]; decide), if_neg (by omega)]
  unfold setM
  refine ⟨?_, ho⟩
  show (if 0 < M.pw then M.pw - 1 else M.pw) < 0
  rw [if_neg (by omega)]; exact hp
theorem w1M_never {M : Mm} (sd i : Nat) (H N : ByteArray) (h : M.pw < 0 ∧ M.off = false) : (w1M M sd i H N).pw < 0 ∧ (w1M M sd i H N).off = false := by
  unfold w1M
  split
  · exact h
  · exact wrC_never _ _ h.1 h.2
theorem wsM_never {M : Mm} (sd : Nat) (H N : Nat → ByteArray) (h : M.pw < 0 ∧ M.off = false) : (wsM M sd H N).1.pw < 0 ∧ (wsM M sd H N).1.off = false := by
  have h4 := w1M_never (w1S (w1S (w1S sd 0 (H 0) (N 0)) 1 (H 1) (N 1)) 2 (H 2) (N 2)) 3 (H 3) (N 3) (w1M_never (w1S (w1S sd 0 (H 0) (N 0)) 1 (H 1) (N 1)) 2 (H 2) (N 2) (w1M_never (w1S sd 0 (H 0) (N 0)) 1 (H 1) (N 1) (w1M_never sd 0 (H 0) (N 0) h))); exact wrC_never _ _ h4.1 h4.2
theorem new_bare (p : Int) : Bare ⟨List.replicate 32 zeroCk, p, false⟩ := ⟨by simp, fun c hc => by rw [(List.mem_replicate.1 hc).2]; rfl, by simp; rfl⟩
theorem ordered_ok {tr : Int} (ht : 0 ≤ tr ∧ tr ≤ 15) {k : Ks} (hk : OkK k) {o : XOrder} (h1 : okindB o = false) (h2 : orangeB o = false) (h3 : oformB o = false) : OkK (orderedK tr k o) := by
  have a : 0 ≤ o.n ∧ o.n ≤ mostN o.what := by unfold orangeB at h2; rw [Bool.not_eq_false'] at h2; exact inB_trueO.1 h2
  have t : textB o.what o.text = true := by unfold oformB at h3; simpa using h3
  unfold orderedK
  split
  · rename_i e; rw [e] at a; exact { hk with purse := a }
  split
  · rename_i e; rw [e] at a; exact { hk with one := a }
  split
  · rename_i e; rw [e] at a; exact { hk with runs := a }
  split
  · exact { hk with left := ht }
  split
  · exact { hk with }
  split
  · exact { hk with }
  split
  · rename_i e
    rw [e] at a t; exact { hk with version := a, key := of_decide_eq_true t }
  split
  · rename_i e
    rw [e] at t
    have hb : digBO o.text = true ∧ (4 : Int) ≤ o.text.size ∧ (o.text.size : Int) ≤ 12 := by
      have ht' : digitsBO o.text 4 12 = true := t
      unfold digitsBO at ht'
      rw [Bool.and_eq_true] at ht'; exact ⟨ht'.1, inB_trueO.1 ht'.2⟩
    refine { hk with pin := ⟨by show 4 ≤ o.text.size; omega, by show o.text.size ≤ 12; omega, fun c hc => digC_trueO (List.all_eq_true.1 hb.1 c hc)⟩ }
  · exact hk
theorem fold_ok {tr : Int} (ht : 0 ≤ tr ∧ tr ≤ 15) : ∀ (l : List XOrder) {k : Ks}, OkK k → (∀ o ∈ l, okindB o = false ∧ orangeB o = false ∧ oformB o = false) → OkK (l.foldl (orderedK tr) k)
  | [], _, h, _ => h
  | o :: l, _, h, hl => fold_ok ht l (ordered_ok ht h (hl o (List.mem_cons_self ..)).1 (hl o (List.mem_cons_self ..)).2.1 (hl o (List.mem_cons_self ..)).2.2) fun x hx => hl x (List.mem_cons_of_mem _ hx)
theorem ordered_orders (tr : Int) (k : Ks) (o : XOrder) : (orderedK tr k o).orders = k.orders := by
  unfold orderedK
  repeat' split
  all_goals rfl
theorem fold_orders (tr : Int) : ∀ (l : List XOrder) (k : Ks), (l.foldl (orderedK tr) k).orders = k.orders
  | [], _ => rfl
  | o :: l, k => by rw [List.foldl_cons, fold_orders tr l, ordered_orders]
end Go.Proofs.YtajkbkljonejnaaGreatDoor
