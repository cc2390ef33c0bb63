/- ClearSums: what should be owed, plain. -/
import Derived.Test.YtdameincehiieaaCsM
namespace Go.Proofs.Ytdameincehiieaa
set_option linter.unusedVariables false

def wantP (L : List Kse) (p : Int × Int) (a b : Int) : Int := match L.find? (keyIs p.1 p.2) with | some k => wantK k a b | none => 0
def wantV (L : List Kse) (vis : List (Int × Int)) (a b : Int) : Int := (vis.map (fun p => wantP L p a b)).sum
theorem wantV_snoc (L : List Kse) (vis : List (Int × Int)) (p : Int × Int) (a b : Int) : wantV L (vis ++ [p]) a b = wantV L vis a b + wantP L p a b := by
  unfold wantV; rw [List.map_append, List.sum_append]; simp
theorem wantV_perm {L : List Kse} {vis vis' : List (Int × Int)} (h : vis.Perm vis') (a b : Int) : wantV L vis a b = wantV L vis' a b := by
  unfold wantV
  induction h with
  | nil => rfl
  | cons x _ ih => simp only [List.map_cons, List.sum_cons]; rw [ih]
  | swap x y l => simp only [List.map_cons, List.sum_cons]; omega
  | trans _ _ h1 h2 => exact h1.trans h2
theorem find_key {L : List Kse} (hn : (L.map (fun k => (k.p.shop, k.p.trace))).Nodup) {k : Kse} (hk : k ∈ L) {a b : Int} (hkey : keyIs a b k = true) : L.find? (keyIs a b) = some k := by
  cases hf : L.find? (keyIs a b) with
  | none => exact absurd hkey (by simpa using List.find?_eq_none.1 hf k hk)
  | some k' =>
    have h1 : keyIs a b k' = true := List.find?_some hf
    obtain ⟨i, hi⟩ := List.getElem?_of_mem hk
    obtain ⟨j, hj⟩ := List.getElem?_of_mem (List.mem_of_find?_eq_some hf)
    obtain rfl := key_once hn hi hj hkey h1
    rw [hi] at hj
    exact hj.symm
theorem wantV_keys {L : List Kse} (hn : (L.map (fun k => (k.p.shop, k.p.trace))).Nodup) (a b : Int) : wantV L (L.map (fun k => (k.p.shop, k.p.trace))) a b = wantL L a b := by
  unfold wantV wantL
  rw [List.map_map]
  congr 1
  refine List.map_congr_left (fun k hk => ?_)
  show wantP L (k.p.shop, k.p.trace) a b = wantK k a b
  unfold wantP
  rw [find_key hn hk (a := k.p.shop) (b := k.p.trace) (decide_eq_true ⟨rfl, rfl⟩)]
theorem wantV_all {L : List Kse} (hn : (L.map (fun k => (k.p.shop, k.p.trace))).Nodup) {G : Int → Int → Option Pst} (hG : ∀ a b, G a b = (L.find? (keyIs a b)).map (fun k : Kse => k.p)) {vis : List (Int × Int)} (hv : vis.Nodup) (h1 : ∀ p ∈ vis, (G p.1 p.2).isSome = true) (h2 : ∀ a b, (G a b).isSome = true → (a, b) ∈ vis) (a b : Int) : wantV L vis a b = wantL L a b := by
  rw [← wantV_keys hn]
  refine wantV_perm ((List.perm_ext_iff_of_nodup hv hn).2 (fun p => ?_)) a b
  obtain ⟨p1, p2⟩ := p
  constructor
  · intro hp
    have := h1 _ hp
    rw [hG] at this
    obtain ⟨q, hq⟩ := Option.isSome_iff_exists.1 this
    obtain ⟨k, hk, _⟩ := Option.map_eq_some_iff.1 hq
    have e0 : keyIs p1 p2 k = true := List.find?_some hk
    have e := of_decide_eq_true e0
    exact List.mem_map.2 ⟨k, List.mem_of_find?_eq_some hk, by rw [e.1, e.2]⟩
  · intro hp
    obtain ⟨k, hk, he⟩ := List.mem_map.1 hp
    injection he with e1 e2
    refine h2 p1 p2 ?_
    rw [hG, find_key hn hk (decide_eq_true ⟨e1, e2⟩)]
    rfl
theorem wantP_small {S : Clr} (h : okS S) (p : Int × Int) (a b : Int) : -5000000000000 ≤ wantP S.L p a b ∧ wantP S.L p a b ≤ 5000000000000 := by
  unfold wantP
  split
  · next k hk =>
    have := (h.each k (List.mem_of_find?_eq_some hk)).1
    have h8 := this.2.2.2.2.2.2.2.1
    have h9 := this.2.2.2.2.2.2.2.2.1
    unfold wantK
    split <;> omega
  · omega
theorem wantV_small {S : Clr} (h : okS S) (vis : List (Int × Int)) (a b : Int) : -5000000000000 * (vis.length : Int) ≤ wantV S.L vis a b ∧ wantV S.L vis a b ≤ 5000000000000 * (vis.length : Int) := by
  induction vis with
  | nil => exact ⟨Int.le_refl _, Int.le_refl _⟩
  | cons p l ih =>
    have e : wantV S.L (p :: l) a b = wantP S.L p a b + wantV S.L l a b := by unfold wantV; rw [List.map_cons, List.sum_cons]
    have := wantP_small h p a b
    rw [e, List.length_cons]
    omega
end Go.Proofs.Ytdameincehiieaa
