/- Several texts in one. -/
import Derived.Test.YtpinhcbkfjoopaaKitKAll
import Derived.Test.YtpinhcbkfjoopaaLeastPAll
import Derived.Deep.SlicePairs
import Derived.Lib.SmallJoins
import Derived.ChangeMaps5
import Derived.ArgAppend
import Derived.Deep.QuietTactic
import Derived.BigQuiet
import Derived.Deep.RegionHeld3
import Derived.Deep.DeepCutAuto
import Derived.Deep.OwnRows
import Derived.Deep.RegionLaw
import Derived.Laws.OwnMore
/- Sieves as values and in boxes, rows of numbers below 2^64, rows of rows of bytes, and how what came in is opened. -/
namespace Go.Proofs.Ytpinhcbkfjoopaa
open Go.ChangeShapes Go.WideShapes Go.ChangeAt Go.RowKit Go.Joins
set_option linter.unusedVariables false
namespace P
/-- A sieve. -/
structure Ls where
  k : Int
  h : List Int
/-- A sieve that may stand. -/
structure LsGood (s : Ls) : Prop where
  k2 : 2 ≤ s.k
  k64 : s.k ≤ 64
  len : (s.h.length : Int) ≤ s.k
  up : Up s.h
open Classical in
/-- What Check answers. -/
noncomputable def chkL (s : Ls) : Int := if LsGood s then 0 else 4
theorem chkL_ok {s : Ls} (h : LsGood s) : chkL s = 0 := by unfold chkL; rw [if_pos h]
theorem chkL_no {s : Ls} (h : ¬ LsGood s) : chkL s = 4 := by unfold chkL; rw [if_neg h]
end P
theorem below_dn {B : Nat} {a w : World} (h : Below B a w) (n : Nat) : Below B a (w.drewN n) := ⟨h.os, h.tape, h.output, h.size, h.block⟩
theorem below_dr {B : Nat} {a w : World} (h : Below B a w) : Below B a w.drew := ⟨h.os, h.tape, h.output, h.size, h.block⟩
theorem add_none {b off k : Nat} : (Addr.add ⟨b, off, none⟩ k) = ⟨b, off + k, none⟩ := by
  unfold Addr.add; split
  · rename_i h; subst h; rfl
  · rfl
theorem dn_ex {w w' : World} (h : ∃ q, w' = w.drewN q) (n : Nat) : ∃ q, w'.drewN n = w.drewN q := by obtain ⟨q, rfl⟩ := h; exact ⟨_, World.drewN_drewN _ _ _⟩
theorem Try.info31 : (Try.prog.info? 31).map (fun i => (i.zero, i.size, i.bytes)) = some (some (.int .u64 0), 1, 8) := by kernel_rfl
theorem cells31 : Try.prog.cellsOf 31 = 1 := by kernel_rfl
theorem bytes31 : Try.prog.bytesOf 31 = 8 := by kernel_rfl
theorem cells3 : Try.prog.cellsOf 3 = 1 := by kernel_rfl
theorem cells22 : Try.prog.cellsOf 22 = 1 := by kernel_rfl
theorem cells24 : Try.prog.cellsOf 24 = 2 := by kernel_rfl
abbrev OwnU (w : World) (base : Nat) (v : Value) (l : List Int) : Prop := OwnK 31 .u64 w base v l
/-- A row's value bears its length. -/
theorem RowK.shp {k : IntKind} {w : World} {v : Value} {l : List Int} (h : RowK k w v l) : ∃ a cap, v = .slice a l.length cap := by obtain ⟨a, cap, h, _⟩ := h; exact ⟨a, cap, h⟩
/-- Numbers below 2^64. -/
def U64 (l : List Int) : Prop := ∀ x ∈ l, 0 ≤ x ∧ x ≤ 18446744073709551615
theorem u64_of {l : List Int} (h : ∀ n ∈ l, (Lit.int .u64 n).wf = true) : U64 l := fun x hx => bounds_u64 (h x hx)
theorem U64.at {l : List Int} (h : U64 l) (j : Nat) : 0 ≤ l.getD j 0 ∧ l.getD j 0 ≤ 18446744073709551615 := by
  by_cases hj : j < l.length
  · have := h l[j] (List.getElem_mem hj)
    simpa [List.getD_eq_getElem?_getD, List.getElem?_eq_getElem hj] using this
  · simp [List.getD_eq_getElem?_getD, List.getElem?_eq_none (Nat.le_of_not_lt hj)]
/-- What fits its words. -/
structure LsI (s : P.Ls) : Prop where
  k : -9223372036854775808 ≤ s.k ∧ s.k ≤ 9223372036854775807
  h : U64 s.h
abbrev aggL (v : Value) (s : P.Ls) : Value := .agg #[.int .i64 s.k, v]
/-- The reach of a slice that stands itself among the arguments, by its length. -/
theorem row_reachN {H : Type} {ts : List TypeId} {ds : List (DataW H)} (hsz : (DataW.weightsEach Try.prog ts ds).all (· ≤ reachBytes) = true) {j : Nat} {d : DataW H} {t e : TypeId} {n : Nat} (ht : ts[j]? = some t) (hd : ds[j]? = some d)
    (hu : Try.prog.underlying t = some (.slice e)) (h : d = .nil ∧ n = 0 ∨ ∃ elems spare, d = .slice elems spare ∧ elems.length = n) : n * Try.prog.bytesOf e ≤ 140737488351232 := by
  rcases h with ⟨_, rfl⟩ | ⟨el, sp, rfl, hl⟩
  · simp
  · have := sized_slice hsz ht hd hu
    have h2 : n * Try.prog.bytesOf e ≤ (el.length + sp.length) * Try.prog.bytesOf e := Nat.mul_le_mul_right _ (by omega)
    have h3 : reachBytes = 140737488351232 := rfl
    omega
set_option maxRecDepth 100000 in
/-- A sieve that came in, opened. -/
theorem open_least {H : Type} {enc : TypeId × Value → H} {W : World} {base : Nat} {v : Value} {d : DataW H} {p : List MemPlace} (hv : Value.okWide Try.prog W .any base 24 v) (h : DataW.Trod enc Try.prog W 0 (fun _ => true) true 24 v d p) :
    ∃ (lv : Value) (s : P.Ls), v = aggL lv s ∧ RowK .u64 W lv s.h ∧ LsI s := by
  obtain ⟨cs, rfl, hsz⟩ := okWide_struct Try.underlying24 hv
  obtain ⟨c0, c1, rfl⟩ : ∃ c0 c1, cs = #[c0, c1] := by
    have h2 : cs.size = 2 := hsz.trans cells24
    obtain ⟨l⟩ := cs
    match l, h2 with
    | [c0, c1], _ => exact ⟨c0, c1, rfl⟩
  obtain ⟨fuel, hf⟩ := h
  obtain ⟨xs, n, _, _, _, hxl, hfs⟩ := DataW.trod_struct Try.underlying24 hf
  match xs, hxl with
  | [y0, y1], _ =>
    have g0 := hfs 0 _ rfl
    have g1 := hfs 1 _ rfl
    simp [cells3, cells22, Value.cells] at g0 g1
    obtain ⟨k, e0, _, w0⟩ := DataW.trod_int Try.underlying3 g0
    obtain ⟨a1, l1, p1, e1⟩ := slice_form Try.underlying22 g1
    simp at e0 e1
    subst e0 e1
    obtain ⟨L, r1, wL, _⟩ := open_row Try.underlying22 Try.underlying31 cells31 ⟨n, g1⟩
    exact ⟨_, ⟨k, L⟩, rfl, r1, ⟨bounds_i64 w0, u64_of wL⟩⟩
theorem cells25 : Try.prog.cellsOf 25 = 1 := by kernel_rfl
theorem bytes25 : Try.prog.bytesOf 25 = 24 := by kernel_rfl
theorem cells40 : Try.prog.cellsOf 40 = 1 := by kernel_rfl
/-- A row of rows of bytes that can be read. -/
def RowsB (w : World) (v : Value) (L : List (List Int)) : Prop :=
  ∃ a cap, v = .slice a L.length cap ∧ (L.length ≤ cap ∧ cap ≤ maxLen ∧ (a = none → cap = 0)) ∧ (L = [] ∨ ∃ b off, a = some ⟨b, off, none⟩ ∧ b < w.heap.size ∧ ∀ j l, L[j]? = some l → ∃ vj, w.cell? ⟨b, off + j, none⟩ = some vj ∧ RowK .u8 w vj l)
theorem RowsB.below {w w' : World} {B : Nat} {v : Value} {L : List (List Int)} (h : RowsB w v L) (hb : Below B w w') (hB : w.heap.size ≤ B) : RowsB w' v L := by
  obtain ⟨a, cap, h1, h2, h3⟩ := h
  refine ⟨a, cap, h1, h2, ?_⟩
  rcases h3 with h3 | ⟨b, off, e, hlt, hc⟩
  · exact .inl h3
  · refine .inr ⟨b, off, e, Nat.lt_of_lt_of_le hlt hb.size, fun j l hl => ?_⟩
    obtain ⟨vj, h4, h5⟩ := hc j l hl
    exact ⟨vj, (hb.cell (p := ⟨b, off + j, none⟩) (Nat.lt_of_lt_of_le hlt hB)).trans h4, h5.below hb hB⟩
/-- A slice of slices of bytes that came in, opened. -/
theorem open_rowsB {H : Type} {enc : TypeId × Value → H} {W : World} {a : Option Addr} {len cap : Nat} {d : DataW H} {p : List MemPlace}
    (h : ∃ fuel, DataW.trod enc Try.prog W 0 (fun _ => true) true fuel 40 [.slice a len cap] = some (d, p)) :
    ∃ L : List (List Int), RowsB W (.slice a len cap) L ∧ (∀ l ∈ L, Byt l) ∧ (d = .nil ∧ L.length = 0 ∨ ∃ elems spare, d = .slice elems spare ∧ elems.length = L.length) := by
  obtain ⟨fuel, hf⟩ := h
  rcases Go.Deep.open_slice Try.underlying40 hf with ⟨hcs, hx⟩ | ⟨x, l, c, m, n, D, Pl, hcs, _, hl, hm, hmm, hx, hel⟩
  · simp at hcs hx
    obtain ⟨rfl, rfl, rfl⟩ := hcs
    exact ⟨[], ⟨none, 0, rfl, ⟨by simp, by simp, fun _ => rfl⟩, .inl rfl⟩, (fun s hs => by cases hs), .inl ⟨hx.1, rfl⟩⟩
  · simp at hcs hx hmm
    obtain ⟨rfl, rfl, rfl⟩ := hcs
    have key : ∀ i, i < len → ∃ y : List Int, Byt y ∧ ∃ vj, W.cell? (x.add i) = some vj ∧ RowK .u8 W vj y := by
      intro i hi
      obtain ⟨cs', h1, h2⟩ := hel i (by omega)
      rw [cells25] at h1
      obtain ⟨_, hlen, hcell⟩ := World.cells?_some h1
      match cs', hlen with
      | [v0], _ =>
        have e0 := hcell 0 (by omega)
        rw [Go.Deep.add_add] at e0
        have e1 : W.cell? (x.add i) = some v0 := by simpa using e0
        obtain ⟨a2, l2, c2, hv⟩ := slice_form Try.underlying25 h2
        simp at hv
        subst hv
        obtain ⟨y, hy1, hy2, _⟩ := open_row Try.underlying25 Try.underlying5 cells5 ⟨n, h2⟩
        exact ⟨y, wf_bytes hy2, _, e1, hy1⟩
    obtain ⟨f, hf2⟩ := Go.Deep.choose_lt key
    have hlen : ((List.range len).map f).length = len := by simp
    refine ⟨(List.range len).map f, ⟨some x, cap, by rw [hlen], ⟨by rw [hlen]; omega, hm, fun h => by cases h⟩, ?_⟩, ?_, .inr ⟨_, _, hx.1, by simp⟩⟩
    · rcases Nat.eq_zero_or_pos len with h0 | h0
      · exact .inl (by rw [h0]; rfl)
      · right
        obtain ⟨b, off, spot⟩ := x
        obtain ⟨v0, h1, _⟩ := (hf2 0 (by omega)).2
        have hs : spot = none := by simpa [Addr.add] using World.cell?_spot h1
        subst hs
        refine ⟨b, off, rfl, World.block_lt_of_cell? W _ h1, fun j y hy => ?_⟩
        have hj : j < len := by
          rcases Nat.lt_or_ge j len with h | h
          · exact h
          · rw [List.getElem?_eq_none (by rw [hlen]; exact h)] at hy; cases hy
        simp [hj] at hy
        subst hy
        obtain ⟨_, vj, g0, g1⟩ := hf2 j hj
        rw [add_none] at g0
        exact ⟨vj, g0, g1⟩
    · intro s hs
      obtain ⟨i, hi, rfl⟩ := List.mem_map.1 hs
      exact (hf2 i (List.mem_range.1 hi)).1
/-- A block of another type is none of a row's. -/
theorem own_ne {w : World} {base : Nat} {e t : TypeId} {size n g : Nat} {v : Value} {xs : List Value} {cur : Array Value} (ho : w.ownsRow base e size v n xs) (hg : w.heap[g]? = some (.cells cur t (0, 0))) (hne : t ≠ e) : v.ownBlock ≠ some g := by
  rcases ho.2 with ⟨rfl, _⟩ | ⟨g', cap, cur', rfl, _, hg', _⟩
  · simp [Value.ownBlock]
  · intro h
    simp [Value.ownBlock] at h
    subst h
    rw [hg] at hg'
    simp at hg'
    exact hne hg'.2
abbrev cellsL (v : Value) (S : P.Ls) : Array Value := #[.int .i64 S.k, v]
/-- The box of a sieve. -/
def BoxL (w : World) (g : Nat) (v : Value) (S : P.Ls) : Prop := w.heap[g]? = some (.cells (cellsL v S) 24 (0, 0))
theorem BoxL.lt {w : World} {g : Nat} {v : Value} {S : P.Ls} (h : BoxL w g v S) : g < w.heap.size := (Array.getElem?_eq_some_iff.1 h).1
theorem BoxL.cells {w : World} {g : Nat} {v : Value} {S : P.Ls} (h : BoxL w g v S) : w.cell? ⟨g, 0, none⟩ = some (.int .i64 S.k) ∧ w.cell? ⟨g, 1, none⟩ = some v := by
  unfold BoxL at h; simp [World.cell?, h]
theorem BoxL.unfrozen {w : World} {g : Nat} {v : Value} {S : P.Ls} (h : BoxL w g v S) (j : Nat) : w.frozen? ⟨g, j, none⟩ = false := by unfold BoxL at h; simp [World.frozen?, h]
theorem BoxL.below {w w' : World} {g : Nat} {v : Value} {S : P.Ls} (h : BoxL w g v S) (hb : Below w.heap.size w w') : BoxL w' g v S := (hb.block g h.lt).trans h
theorem BoxL.new (w : World) (v : Value) (S : P.Ls) : BoxL (w.alloc (.cells (cellsL v S) 24)) w.heap.size v S := heap_alloc_new w _
theorem BoxL.grown {w w' : World} {g : Nat} {v : Value} {S : P.Ls} {row : Option Nat} (h : BoxL w g v S) (hg : w.grownBy w' row) (hne : row ≠ some g) : BoxL w' g v S := (hg.block g h.lt (fun e => hne (by rw [e]))).trans h
theorem setCell_grown (w : World) (g j : Nat) (u : Value) : w.grownBy (w.setCell ⟨g, j, none⟩ u) (some g) := ⟨rfl, rfl, rfl, by simp, fun k _ hne => heap_setCell_other w ⟨g, j, none⟩ k u (fun e => hne (by rw [e]))⟩
theorem BoxL.list {w : World} {g : Nat} {v : Value} {S : P.Ls} (h : BoxL w g v S) (v' : Value) (l : List Int) : BoxL (w.setCell ⟨g, 1, none⟩ v') g v' ⟨S.k, l⟩ := by
  unfold BoxL at h ⊢; rw [heap_setCell_same w g 1 _ _ _ h]; simp [cellsL]
/-- Of a sieve in a box what its row holds is the row's own business. -/
theorem BoxL.of {w : World} {g : Nat} {v : Value} {S : P.Ls} (h : BoxL w g v S) (l : List Int) : BoxL w g v ⟨S.k, l⟩ := h
/-- A whole sieve stored into its box. -/
def setS (w : World) (g : Nat) (v : Value) (S : P.Ls) : World := (w.setCell ⟨g, 0, none⟩ (.int .i64 S.k)).setCell ⟨g, 1, none⟩ v
theorem BoxL.all {w : World} {g : Nat} {v : Value} {S : P.Ls} (h : BoxL w g v S) (v' : Value) (S' : P.Ls) : BoxL (setS w g v' S') g v' S' := by
  unfold BoxL at h ⊢
  unfold setS
  have h0 := heap_setCell_same w g 0 _ _ (.int .i64 S'.k) h
  have h1 := heap_setCell_same _ g 1 _ _ v' h0
  rw [h1]; simp [cellsL]
theorem setS_grown (w : World) (g : Nat) (v : Value) (S : P.Ls) : w.grownBy (setS w g v S) (some g) := by
  unfold setS; exact (setCell_grown w g 0 _).trans (setCell_grown _ g 1 _)
theorem Below.setS' {B : Nat} {a w : World} {g : Nat} (h : Below B a w) (hg : B ≤ g) (v : Value) (S : P.Ls) : Below B a (setS w g v S) := by
  unfold setS; exact (h.setCell hg _).setCell hg _
/-- A row of numbers beside a box that is written. -/
theorem OwnU.box {w w' : World} {base g : Nat} {v vb : Value} {l : List Int} {S : P.Ls} (h : OwnU w base v l) (hb : BoxL w g vb S) (hg : w.grownBy w' (some g)) : OwnU w' base v l := World.ownsRow.kept h hg (.inr (own_ne h hb (by decide)))
theorem BoxL.ne {w : World} {base g : Nat} {v vb : Value} {l : List Int} {S : P.Ls} (hb : BoxL w g vb S) (h : OwnU w base v l) : v.ownBlock ≠ some g := own_ne h hb (by decide)
/-- Another box beside one that is written. -/
theorem BoxL.other {w w' : World} {g g2 : Nat} {v : Value} {S : P.Ls} (h : BoxL w g v S) (hg : w.grownBy w' (some g2)) (hne : g2 ≠ g) : BoxL w' g v S := h.grown hg (fun e => hne (Option.some.inj e))
def z0 : P.Ls := ⟨0, []⟩
abbrev zeroL : Value := .agg #[.int .i64 0, .slice none 0 0]
theorem zero_new (w : World) : BoxL (w.alloc (.cells #[.int .i64 0, .slice none 0 0] 24)) w.heap.size (.slice none 0 0) z0 := heap_alloc_new w _
theorem row_z0 (w : World) : RowK .u64 w (.slice none 0 0) z0.h := ⟨none, 0, rfl, ⟨by simp [z0], by simp, fun _ => rfl⟩, .inl rfl⟩
end Go.Proofs.Ytpinhcbkfjoopaa
