/- Ranks in memory: rows of rows of numbers, a rank as a value, and how one that came in is opened. -/
import Derived.Test.YtlndbmenaaiogaaRankP
import Derived.Deep.SlicePairs
import Derived.Lib.SmallJoins
import Derived.ChangeMaps5
import Derived.ArgAppend
import Derived.Deep.QuietTactic
import Derived.BigQuiet
import Derived.Deep.RegionHeld3
import Derived.Deep.DeepCutAuto
import Derived.Deep.OwnRows
import Derived.Deep.RegionLaw
namespace Go.Proofs.Ytlndbmenaaiogaa
open Go.ChangeShapes Go.WideShapes Go.ChangeAt Go.RowKit Go.Joins
set_option linter.unusedVariables false
/-- A row of rows of numbers that can be read. -/
def RowsI (w : World) (v : Value) (L : List (List Int)) : Prop :=
  ∃ a cap, v = .slice a L.length cap ∧ (L.length ≤ cap ∧ cap ≤ maxLen) ∧ (L = [] ∨ ∃ b off, a = some ⟨b, off, none⟩ ∧ b < w.heap.size ∧ ∀ j l, L[j]? = some l → ∃ vj, w.cell? ⟨b, off + j, none⟩ = some vj ∧ RowK .i64 w vj l)
theorem RowsI.below {w w' : World} {B : Nat} {v : Value} {L : List (List Int)} (h : RowsI w v L) (hb : Below B w w') (hB : w.heap.size ≤ B) : RowsI w' v L := by
  obtain ⟨a, cap, h1, h2, h3⟩ := h
  refine ⟨a, cap, h1, h2, ?_⟩
  rcases h3 with h3 | ⟨b, off, e, hlt, hc⟩
  · exact .inl h3
  · refine .inr ⟨b, off, e, Nat.lt_of_lt_of_le hlt hb.size, fun j l hl => ?_⟩
    obtain ⟨vj, h4, h5⟩ := hc j l hl
    exact ⟨vj, (hb.cell (p := ⟨b, off + j, none⟩) (Nat.lt_of_lt_of_le hlt hB)).trans h4, h5.below hb hB⟩
/-- Numbers of 64 bits. -/
def I64 (l : List Int) : Prop := ∀ x ∈ l, -9223372036854775808 ≤ x ∧ x ≤ 9223372036854775807
/-- A rank as a value. -/
structure RkV (w : World) (tv lv : Value) (s : P.Rk) : Prop where
  tail : RowK .i64 w tv s.tail
  lv : RowsI w lv s.lv
abbrev aggR (tv lv : Value) (s : P.Rk) : Value := .agg #[.int .i64 s.k, tv, lv, .int .i64 s.n, .int .i64 s.sl]
theorem RkV.below {w w' : World} {B : Nat} {tv lv : Value} {s : P.Rk} (h : RkV w tv lv s) (hb : Below B w w') (hB : w.heap.size ≤ B) : RkV w' tv lv s := ⟨h.tail.below hb hB, h.lv.below hb hB⟩
/-- What of a rank fits its words. -/
structure RkI (s : P.Rk) : Prop where
  k : -9223372036854775808 ≤ s.k ∧ s.k ≤ 9223372036854775807
  n : -9223372036854775808 ≤ s.n ∧ s.n ≤ 9223372036854775807
  sl : -9223372036854775808 ≤ s.sl ∧ s.sl ≤ 9223372036854775807
  kept : I64 (P.kept s)
theorem below_dn {B : Nat} {a w : World} (h : Below B a w) (n : Nat) : Below B a (w.drewN n) := ⟨h.os, h.tape, h.output, h.size, h.block⟩
theorem below_dr {B : Nat} {a w : World} (h : Below B a w) : Below B a w.drew := ⟨h.os, h.tape, h.output, h.size, h.block⟩
theorem array5 {α : Type} {cs : Array α} (h : cs.size = 5) : ∃ c0 c1 c2 c3 c4, cs = #[c0, c1, c2, c3, c4] := by
  obtain ⟨l⟩ := cs
  match l, h with
  | [c0, c1, c2, c3, c4], _ => exact ⟨c0, c1, c2, c3, c4, rfl⟩
theorem cells22 : Try.prog.cellsOf 22 = 1 := by kernel_rfl
theorem cells23 : Try.prog.cellsOf 23 = 1 := by kernel_rfl
theorem cells3 : Try.prog.cellsOf 3 = 1 := by kernel_rfl
theorem bytes22 : Try.prog.bytesOf 22 = 24 := by kernel_rfl
theorem cells25 : Try.prog.cellsOf 25 = 5 := by kernel_rfl
theorem i64_of {l : List Int} (h : ∀ n ∈ l, (Lit.int .i64 n).wf = true) : I64 l := fun x hx => bounds_i64 (h x hx)
theorem add_none {b off k : Nat} : (Addr.add ⟨b, off, none⟩ k) = ⟨b, off + k, none⟩ := by
  unfold Addr.add; split
  · rename_i h; subst h; rfl
  · rfl
/-- A slice of slices of numbers that came in, opened. -/
theorem open_rows {H : Type} {enc : TypeId × Value → H} {W : World} {a : Option Addr} {len cap : Nat} {d : DataW H} {p : List MemPlace}
    (h : ∃ fuel, DataW.trod enc Try.prog W 0 (fun _ => true) true fuel 23 [.slice a len cap] = some (d, p)) :
    ∃ L : List (List Int), RowsI W (.slice a len cap) L ∧ (∀ l ∈ L, I64 l) ∧ (d = .nil ∧ L.length = 0 ∨ ∃ elems spare, d = .slice elems spare ∧ elems.length = L.length) := by
  obtain ⟨fuel, hf⟩ := h
  rcases Go.Deep.open_slice Try.underlying23 hf with ⟨hcs, hx⟩ | ⟨x, l, c, m, n, D, Pl, hcs, _, hl, hm, hmm, hx, hel⟩
  · simp at hcs hx
    obtain ⟨rfl, rfl, rfl⟩ := hcs
    exact ⟨[], ⟨none, 0, rfl, ⟨by simp, by simp⟩, .inl rfl⟩, (fun s hs => by cases hs), .inl ⟨hx.1, rfl⟩⟩
  · simp at hcs hx hmm
    obtain ⟨rfl, rfl, rfl⟩ := hcs
    have key : ∀ i, i < len → ∃ y : List Int, I64 y ∧ ∃ vj, W.cell? (x.add i) = some vj ∧ RowK .i64 W vj y := by
      intro i hi
      obtain ⟨cs', h1, h2⟩ := hel i (by omega)
      rw [cells22] at h1
      obtain ⟨_, hlen, hcell⟩ := World.cells?_some h1
      match cs', hlen with
      | [v0], _ =>
        have e0 := hcell 0 (by omega)
        rw [Go.Deep.add_add] at e0
        have e1 : W.cell? (x.add i) = some v0 := by simpa using e0
        obtain ⟨a2, l2, c2, hv⟩ := slice_form Try.underlying22 h2
        simp at hv
        subst hv
        obtain ⟨y, hy1, hy2, _⟩ := open_row Try.underlying22 Try.underlying2 cells2 ⟨n, h2⟩
        exact ⟨y, i64_of hy2, _, e1, hy1⟩
    obtain ⟨f, hf2⟩ := Go.Deep.choose_lt key
    have hlen : ((List.range len).map f).length = len := by simp
    refine ⟨(List.range len).map f, ⟨some x, cap, by rw [hlen], ⟨by rw [hlen]; omega, hm⟩, ?_⟩, ?_, .inr ⟨_, _, hx.1, by simp⟩⟩
    · rcases Nat.eq_zero_or_pos len with h0 | h0
      · exact .inl (by rw [h0]; rfl)
      · right
        obtain ⟨b, off, spot⟩ := x
        obtain ⟨v0, h1, _⟩ := (hf2 0 (by omega)).2
        have hs : spot = none := by simpa [Addr.add] using World.cell?_spot h1
        subst hs
        refine ⟨b, off, rfl, World.block_lt_of_cell? W _ h1, fun j y hy => ?_⟩
        have hj : j < len := by
          rcases Nat.lt_or_ge j len with h | h
          · exact h
          · rw [List.getElem?_eq_none (by rw [hlen]; exact h)] at hy; cases hy
        simp [hj] at hy
        subst hy
        obtain ⟨_, vj, g0, g1⟩ := hf2 j hj
        rw [add_none] at g0
        exact ⟨vj, g0, g1⟩
    · intro s hs
      obtain ⟨i, hi, rfl⟩ := List.mem_map.1 hs
      exact (hf2 i (List.mem_range.1 hi)).1
set_option maxRecDepth 100000 in
/-- A rank that came in, opened. -/
theorem open_rank {H : Type} {enc : TypeId × Value → H} {W : World} {base : Nat} {v : Value} {d : DataW H} {p : List MemPlace} (hv : Value.okWide Try.prog W .any base 25 v) (h : DataW.Trod enc Try.prog W 0 (fun _ => true) true 25 v d p) :
    ∃ (tv lv : Value) (s : P.Rk), v = aggR tv lv s ∧ RkV W tv lv s ∧ RkI s := by
  obtain ⟨cs, rfl, hsz⟩ := okWide_struct Try.underlying25 hv
  obtain ⟨c0, c1, c2, c3, c4, rfl⟩ := array5 (hsz.trans cells25)
  obtain ⟨fuel, hf⟩ := h
  obtain ⟨xs, n, _, _, _, hxl, hfs⟩ := DataW.trod_struct Try.underlying25 hf
  match xs, hxl with
  | [y0, y1, y2, y3, y4], _ =>
    have g0 := hfs 0 _ rfl
    have g1 := hfs 1 _ rfl
    have g2 := hfs 2 _ rfl
    have g3 := hfs 3 _ rfl
    have g4 := hfs 4 _ rfl
    simp [cells3, cells22, cells23, cells2, Value.cells] at g0 g1 g2 g3 g4
    obtain ⟨k, e0, _, w0⟩ := DataW.trod_int Try.underlying3 g0
    obtain ⟨a1, l1, p1, e1⟩ := slice_form Try.underlying22 g1
    obtain ⟨a2, l2, p2, e2⟩ := slice_form Try.underlying23 g2
    obtain ⟨m, e3, _, w3⟩ := DataW.trod_int Try.underlying2 g3
    obtain ⟨sl, e4, _, w4⟩ := DataW.trod_int Try.underlying2 g4
    simp at e0 e1 e2 e3 e4
    subst e0 e1 e2 e3 e4
    obtain ⟨t, r1, wt, _⟩ := open_row Try.underlying22 Try.underlying2 cells2 ⟨n, g1⟩
    obtain ⟨L, r2, wL, _⟩ := open_rows ⟨n, g2⟩
    refine ⟨_, _, ⟨k, t, L, m, sl⟩, rfl, ⟨r1, r2⟩, ⟨bounds_i64 w0, bounds_i64 w3, bounds_i64 w4, fun x hx => ?_⟩⟩
    rcases P.mem_kept.1 hx with h1 | ⟨l, h1, h2⟩
    · exact i64_of wt x h1
    · exact wL l h1 x h2
end Go.Proofs.Ytlndbmenaaiogaa
