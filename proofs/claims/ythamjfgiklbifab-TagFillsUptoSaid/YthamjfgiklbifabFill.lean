/- Fill of the program. -/
import Derived.Test.YthamjfgiklbifabFillLib
import Derived.Test.YthamjfgiklbifabPrintF
import Derived.Test.YthamjfgiklbifabFind
namespace Go.Proofs.Ythamjfgiklbifab
open Go.RowKit
set_option linter.unusedVariables false

/-- the text of a field -/
def fieldS (d : Nat) (l : List It) (f : Int × Int) : ByteArray := fitS f.1.toNat f.2.toNat ((findD f.1 d l).getD ⟨#[]⟩)
def fillL (d : Nat) (l : List It) (fs : List (Int × Int)) : List UInt8 := fs.flatMap fun f => (fieldS d l f).data.toList
def fillS (d : Nat) (l : List It) (fs : List (Int × Int)) : ByteArray := if fieldsE fs = 0 then ⟨(fillL d l fs).toArray⟩ else ⟨#[]⟩
theorem fitS_size (t n : Nat) (s : ByteArray) : (fitS t n s).size = n := by
  unfold fitS
  split
  · rw [ByteArray.size_append, zerosS_size, ByteArray.size_extract]; omega
  · rw [ByteArray.size_append, zerosS_size, ByteArray.size_extract]; omega
theorem fill_take {d : Nat} {l : List It} {fs : List (Int × Int)} {k : Nat} (h : k < fs.length) : fillL d l (fs.take (k + 1)) = fillL d l (fs.take k) ++ (fieldS d l (fs.getD k (0, 0))).data.toList := by
  unfold fillL
  rw [List.take_succ_eq_append_getElem h, List.flatMap_append, List.getD_eq_getElem?_getD, List.getElem?_eq_getElem h]
  simp
theorem fill_len {d : Nat} {l : List It} : ∀ (fs : List (Int × Int)), (∀ f ∈ fs, f.2 ≤ 255) → (fillL d l fs).length ≤ 255 * fs.length
  | [], _ => by simp [fillL]
  | f :: r, h => by
    have h1 := fill_len (d := d) (l := l) r (fun g hg => h g (List.mem_cons_of_mem _ hg))
    have h2 := h f (List.mem_cons_self ..)
    have e : fillL d l (f :: r) = (fieldS d l f).data.toList ++ fillL d l r := by simp [fillL]
    have h3 : (fieldS d l f).data.toList.length = f.2.toNat := by
      have : (fieldS d l f).data.toList.length = (fieldS d l f).size := by simp
      rw [this]; exact fitS_size _ _ _
    rw [e, List.length_append, h3, List.length_cons]
    omega
theorem wt_find (n : Int) : ∀ (d : Nat) (l : List It) (t : ByteArray), findD n d l = some t → t.size ≤ wt d l
  | 0, l, t, h => by simp [findD] at h
  | d + 1, l, t, h => by
    unfold findD at h
    obtain ⟨x, hx, hs⟩ := List.exists_of_findSome?_eq_some h
    obtain ⟨i, hi, rfl⟩ := List.mem_iff_getElem.1 hx
    have hw := wt_get (d := d) (List.getElem?_eq_getElem hi)
    unfold stepF at hs
    split at hs
    · have := wt_find n d _ t hs; omega
    · split at hs
      · cases hs; omega
      · cases hs
theorem find_size (n : Int) (d : Nat) (l : List It) : ((findD n d l).getD ⟨#[]⟩).size ≤ wt d l := by
  cases h : findD n d l with
  | none => exact Nat.zero_le _
  | some t => exact wt_find n d l t h
theorem builder_keep {T e : TypeId} {B b : Nat} {bs : List Value} {w w' : World} (h : Lib.IsBuilder T e B b bs w) (hb : Below w.heap.size w w') : Lib.IsBuilder T e B b bs w' := by
  have key : ∀ p, Lib.BuilderAt T e B b p bs w → Lib.BuilderAt T e B b p bs w' := fun p ⟨h1, v, h2, h3, h4⟩ => by
    have hlt : b < w.heap.size := by
      rcases Nat.lt_or_ge b w.heap.size with h | h
      · exact h
      · rw [Array.getElem?_eq_none h] at h2; cases h2
    refine ⟨h1, v, by rw [hb.block b hlt]; exact h2, ?_, h4⟩
    refine ⟨h3.1, ?_⟩
    rcases h3.2 with h0 | ⟨g, cap, cur, e1, e2, e3, e4⟩
    · exact .inl h0
    · refine .inr ⟨g, cap, cur, e1, e2, ?_, e4⟩
      have hg : g < w.heap.size := by
        rcases Nat.lt_or_ge g w.heap.size with h | h
        · exact h
        · rw [Array.getElem?_eq_none h] at e3; cases e3
      rw [hb.block g hg]; exact e3
  rcases h with h | h
  · exact .inl (key _ h)
  · exact .inr (key _ h)
theorem byteCells_str (l : List UInt8) (s : ByteArray) : Lib.byteCells l ++ Lib.strCells s = Lib.byteCells (l ++ s.data.toList) := by simp [Lib.byteCells, Lib.strCells]

set_option maxRecDepth 1000000 in
set_option maxHeartbeats 4000000 in
theorem fill_any (fs : List (Int × Int)) (ao : Option Addr) (cap : Nat) (d : Nat) (l : List It) (bo : Option Addr) (cap' : Nat) (w : World) (hr : FRow w ao fs) (hn : FNums fs) (hl : (fs.length : Int) ≤ 9000000000000) (hv : IRow w d bo l) (hw : wt d l ≤ 1048576) :
    Calls Try.prog 20 #[.slice ao fs.length cap, .slice bo l.length cap'] w fun e w' => e = .returned (.tuple #[.string (fillS d l fs), .int .i64 (fieldsE fs)]) ∧ Below w.heap.size w w' := by
  have n1 := checkFields_any fs ao cap w hr hn (by omega)
  unfold fillS
  by_cases he : fieldsE fs = 0
  · rw [if_pos he]
    obtain ⟨hall, h100⟩ := fieldsE_zero he
    rw [he] at n1 ⊢
    have N1 := hide n1; have HA := hide hall; have HV := hide hv; have HW := hide hw
    clear n1 hall he hn hv hw
    go_enter Try.func20, Try.ntmps20
    go_wp2_with fail
    refine (unhide N1).mono ?_
    rintro e w1 ⟨rfl, hb1⟩
    have hr1 := hr.below hb1
    clear hr
    go_wp2
    go_loopw [19] (fun i wr => ∃ k : Nat, k ≤ fs.length ∧ i = .int .i64 k ∧ Lib.IsBuilder 67 5 w1.heap.size w1.heap.size (Lib.byteCells (fillL d l (fs.take k))) wr ∧ Below w1.heap.size w1 wr) (fun i _ => fs.length - (intOf i).toNat)
    case atStart =>
      exact ⟨0, Nat.zero_le _, rfl, .inl ⟨Nat.le_refl _, .slice none 0 0, heap_alloc_new w1 _, World.ownsRow_nil _ _ _ _, by simp [Value.ownBlock]⟩, (Below.refl _ _).alloc (Nat.le_refl _) _⟩
    case round =>
      rename World => wo
      obtain ⟨k, hk, rfl, hbu, hbw⟩ := hrel
      by_cases hlt : k < fs.length
      · rcases hr1 with hnil | ⟨b, off, rfl, hb, hc⟩
        · rw [hnil] at hlt; simp at hlt
        obtain ⟨c0, c1⟩ := hc k hlt
        have d0 : wo.cell? ⟨b, off + k * 2, none⟩ = _ := (hbw.cell (p := ⟨b, off + k * 2, none⟩) hb).trans c0
        have d1 : wo.cell? ⟨b, off + k * 2 + 1, none⟩ = _ := (hbw.cell (p := ⟨b, off + k * 2 + 1, none⟩) hb).trans c1
        have hbk : b < wo.heap.size := World.block_lt_of_cell? _ _ d0
        have hnext := fill_take (d := d) (l := l) hlt
        obtain ⟨o1, o2, o3, o4⟩ := okF_of (unhide HA) k hlt
        have hfl : (fillL d l (fs.take k)).length ≤ 25500 := by
          have h1 := fill_len (d := d) (l := l) (fs.take k) (fun f hf => by
            obtain ⟨i, hi, rfl⟩ := List.mem_iff_getElem.1 (List.mem_of_mem_take hf)
            have := (okF_of (unhide HA) i hi).2.2.2
            rw [List.getD_eq_getElem?_getD, List.getElem?_eq_getElem hi] at this
            exact this)
          have h2 : (fs.take k).length ≤ 100 := by have := List.length_take_le k fs; omega
          omega
        have hfs : fieldS d l (fs.getD k (0, 0)) = fitS (fs.getD k (0, 0)).1.toNat (fs.getD k (0, 0)).2.toNat ((findD (fs.getD k (0, 0)).1 d l).getD ⟨#[]⟩) := rfl
        generalize fs.getD k (0, 0) = f at *
        obtain ⟨ft, fl⟩ := f
        simp only at d0 d1 o1 o2 o3 o4 hfs
        obtain ⟨tn, rfl⟩ := Int.eq_ofNat_of_zero_le (show 0 ≤ ft by omega)
        obtain ⟨ln, rfl⟩ := Int.eq_ofNat_of_zero_le o3
        rw [Int.toNat_natCast, Int.toNat_natCast] at hfs
        have hsz := find_size (tn : Int) d l
        have hww := unhide HW
        have N2 := hide (fun (w2 : World) (h : Below w.heap.size w w2) => find_any (tn : Int) d l bo cap' w2 (IRow.below h d (unhide HV)) hww)
        have N3 := hide (fun (w2 : World) => fit_any tn ln ((findD (tn : Int) d l).getD ⟨#[]⟩) w2 (by omega) (by omega) (by omega))
        have hz := fitS_size tn ln ((findD (tn : Int) d l).getD ⟨#[]⟩)
        unfold foundV at N2
        rw [hfs] at hnext
        generalize (findD (tn : Int) d l).getD ⟨#[]⟩ = TX at *
        generalize (findD (tn : Int) d l).isSome = fb at *
        generalize fitS tn ln TX = FX at *
        have HX := hide hnext; have HL := hide hfl; have HZ := hide (show FX.size ≤ 255 by omega)
        have hbwW : Below w.heap.size w wo := below_more hb1 hb1.size hbw
        clear c0 c1 hc hnext hfl hfs hsz hww hz o1 o2 o3 o4
        go_wp2_with fail
        have hblk1 := heap_alloc_new wo (.cells #[.int .i64 (tn : Int), .int .i64 (ln : Int)] 40)
        have hbo1 : Below wo.heap.size wo (wo.alloc (.cells #[.int .i64 (tn : Int), .int .i64 (ln : Int)] 40)) := (Below.refl _ _).alloc (Nat.le_refl _) _
        have hsz1 : wo.heap.size < (wo.alloc (.cells #[.int .i64 (tn : Int), .int .i64 (ln : Int)] 40)).heap.size := by simp
        refine (unhide N2 _ (below_more hbwW hbwW.size hbo1)).mono ?_
        rintro e w3 ⟨rfl, hb3⟩
        have hblk3 : w3.heap[wo.heap.size]? = some (.cells #[.int .i64 (tn : Int), .int .i64 (ln : Int)] 40 (0, 0)) := (hb3.block _ hsz1).trans hblk1
        have hbo3 := below_more hbo1 hbo1.size hb3
        have z0 : w3.cell? ⟨wo.heap.size, 0, none⟩ = some (.int .i64 (tn : Int)) := cell_of_row _ _ 0 _ _ _ hblk3
        have z1 : w3.cell? ⟨wo.heap.size, 1, none⟩ = some (.int .i64 (ln : Int)) := cell_of_row _ _ 1 _ _ _ hblk3
        clear hblk1 hbo1 hsz1 hb3 hblk3
        go_wp2_with fail
        refine (unhide N3 _).mono ?_
        rintro e w4 ⟨rfl, hb4⟩
        have hbo4 := below_more hbo3 hbo3.size hb4
        have hbu4 := builder_keep hbu hbo4
        have hb14 : Below w1.heap.size w1 w4 := below_more hbw hbw.size hbo4
        have N6 := hide (write_any w1.heap.size w1.heap.size (Lib.byteCells (fillL d l (fs.take k))) FX w4 hbu4 (by rw [Lib.byteCells_length]; have := unhide HL; have := unhide HZ; omega) hb14.size)
        rw [byteCells_str, ← unhide HX] at N6
        clear hb4 hbo3 hbo4 hbu4 hbu z0 z1
        go_wp2_with fail
        refine (unhide N6).mono ?_
        rintro e w5 ⟨rfl, hbu5, hb5⟩
        have hb15 : Below w1.heap.size w1 w5 := hb14.trans hb5
        have HB := hide hbu5
        clear hbu5 hb5 hb14
        go_wp2
        go_roundw
        case rel => exact ⟨k + 1, by omega, by go_num, .inr (unhide HB), hb15⟩
        case measure => simp [intOf]; omega
      · have hke : k = fs.length := by omega
        subst hke
        rw [List.take_of_length_le (Nat.le_refl _)] at hbu
        have N5 := hide (string_any w1.heap.size w1.heap.size (fillL d l fs) wo hbu hbw.size)
        have hbwW : Below w.heap.size w wo := below_more hb1 hb1.size hbw
        go_wp2_with fail
        refine (unhide N5).mono ?_
        rintro e w5 ⟨rfl, hb5⟩
        have hb15 : Below w.heap.size w w5 := hbwW.trans (hb5.mono hb1.size)
        go_wp2
        go_ret2
        exact ⟨rfl, hb15⟩
  · rw [if_neg he]
    have t1 : (fieldsE fs != 0) = true := by simpa using he
    generalize fieldsE fs = er at *
    have N1 := hide n1
    clear n1 he
    go_enter Try.func20, Try.ntmps20
    go_wp2_with fail
    refine (unhide N1).mono ?_
    rintro e w1 ⟨rfl, hb1⟩
    go_wp2
    go_ret2
    exact ⟨rfl, hb1⟩
end Go.Proofs.Ythamjfgiklbifab
