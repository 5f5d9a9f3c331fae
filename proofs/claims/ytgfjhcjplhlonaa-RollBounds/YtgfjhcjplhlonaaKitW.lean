/- Rows of windows: rows that are read, rows that the call owns, and how an argument is opened. -/
import Derived.Test.YtgfjhcjplhlonaaKitX
import Derived.Test.YtgfjhcjplhlonaaRollP
namespace Go.Proofs.Ytgfjhcjplhlonaa
open Go.ChangeShapes Go.WideShapes Go.ChangeAt Go.RowKit Go.Joins
set_option linter.unusedVariables false
def wnC (x : P.Wn) : List Value := [.int .i64 x.t, .int .i64 x.n, .int .i64 x.s, .int .i64 x.mn, .int .i64 x.mx, .int .i64 x.f, .int .i64 x.l]
/-- A window as one value. -/
abbrev wnV (x : P.Wn) : Value := .agg #[.int .i64 x.t, .int .i64 x.n, .int .i64 x.s, .int .i64 x.mn, .int .i64 x.mx, .int .i64 x.f, .int .i64 x.l]
theorem wnC_len (x : P.Wn) : (wnC x).length = 7 := rfl
theorem wnC_one (x : P.Wn) : ∀ u ∈ wnC x, u.oneCell' = true := by intro u hu; simp [wnC] at hu; rcases hu with rfl | rfl | rfl | rfl | rfl | rfl | rfl <;> rfl
theorem infoW : (Try.prog.info? 34).map (fun i => (i.zero, i.size, i.bytes)) = some (some (.agg #[.int .i64 0, .int .i64 0, .int .i64 0, .int .i64 0, .int .i64 0, .int .i64 0, .int .i64 0]), 7, 56) := by kernel_rfl
theorem cells34 : Try.prog.cellsOf 34 = 7 := by kernel_rfl
theorem bytes34 : Try.prog.bytesOf 34 = 56 := by kernel_rfl
abbrev RowW (w : World) (v : Value) (l : List P.Wn) : Prop := RowX wnC 7 w v l
abbrev OwnW (w : World) (base : Nat) (v : Value) (l : List P.Wn) : Prop := OwnX wnC 7 34 w base v l
theorem OwnW.row {w : World} {base : Nat} {v : Value} {l : List P.Wn} (h : OwnW w base v l) : RowW w v l := OwnX.row wnC_len h
theorem OwnW.shp {w : World} {base : Nat} {v : Value} {l : List P.Wn} (h : OwnW w base v l) : ∃ a cap, v = .slice a l.length cap := OwnX.shp wnC_len h
theorem OwnW.nil (w : World) (base : Nat) : OwnW w base (.slice none 0 0) [] := OwnX.nil _ _ _ _ _
/-- The seven cells of a window at a place. -/
structure At7 (w : World) (b o : Nat) (x : P.Wn) : Prop where
  t : w.cell? ⟨b, o, none⟩ = some (.int .i64 x.t)
  n : w.cell? ⟨b, o + 1, none⟩ = some (.int .i64 x.n)
  s : w.cell? ⟨b, o + 2, none⟩ = some (.int .i64 x.s)
  mn : w.cell? ⟨b, o + 3, none⟩ = some (.int .i64 x.mn)
  mx : w.cell? ⟨b, o + 4, none⟩ = some (.int .i64 x.mx)
  f : w.cell? ⟨b, o + 5, none⟩ = some (.int .i64 x.f)
  l : w.cell? ⟨b, o + 6, none⟩ = some (.int .i64 x.l)
theorem At7.below {w w' : World} {b o B : Nat} {x : P.Wn} (h : At7 w b o x) (hb : Below B w w') (hB : b < B) : At7 w' b o x :=
  ⟨(hb.cell (p := ⟨b, o, none⟩) hB).trans h.t, (hb.cell (p := ⟨b, o + 1, none⟩) hB).trans h.n, (hb.cell (p := ⟨b, o + 2, none⟩) hB).trans h.s, (hb.cell (p := ⟨b, o + 3, none⟩) hB).trans h.mn, (hb.cell (p := ⟨b, o + 4, none⟩) hB).trans h.mx, (hb.cell (p := ⟨b, o + 5, none⟩) hB).trans h.f, (hb.cell (p := ⟨b, o + 6, none⟩) hB).trans h.l⟩
theorem RowW.at {w : World} {b off : Nat} {l : List P.Wn} (hc : ∀ j x, l[j]? = some x → ∀ i u, (wnC x)[i]? = some u → w.cell? ⟨b, off + j * 7 + i, none⟩ = some u) {k : Nat} {x : P.Wn} (hx : l[k]? = some x) : At7 w b (off + k * 7) x :=
  ⟨hc k x hx 0 _ rfl, hc k x hx 1 _ rfl, hc k x hx 2 _ rfl, hc k x hx 3 _ rfl, hc k x hx 4 _ rfl, hc k x hx 5 _ rfl, hc k x hx 6 _ rfl⟩
/-- Windows of 64 bits. -/
def W64 (x : P.Wn) : Prop := (-9223372036854775808 ≤ x.t ∧ x.t ≤ 9223372036854775807) ∧ (-9223372036854775808 ≤ x.n ∧ x.n ≤ 9223372036854775807) ∧ (-9223372036854775808 ≤ x.s ∧ x.s ≤ 9223372036854775807) ∧ (-9223372036854775808 ≤ x.mn ∧ x.mn ≤ 9223372036854775807) ∧ (-9223372036854775808 ≤ x.mx ∧ x.mx ≤ 9223372036854775807) ∧ (-9223372036854775808 ≤ x.f ∧ x.f ≤ 9223372036854775807) ∧ (-9223372036854775808 ≤ x.l ∧ x.l ≤ 9223372036854775807)
def W64s (l : List P.Wn) : Prop := ∀ x ∈ l, W64 x
set_option maxRecDepth 100000 in
set_option maxHeartbeats 1000000 in
/-- A slice of windows that came in, opened. -/
theorem open_windows {H : Type} {enc : TypeId × Value → H} {W : World} {a : Option Addr} {len cap : Nat} {d : DataW H} {p : List MemPlace}
    (h : ∃ fuel, DataW.trod enc Try.prog W 0 (fun _ => true) true fuel 23 [.slice a len cap] = some (d, p)) :
    ∃ l : List P.Wn, RowW W (.slice a len cap) l ∧ W64s l ∧ (d = .nil ∧ l.length = 0 ∨ ∃ elems spare, d = .slice elems spare ∧ elems.length = l.length) := by
  obtain ⟨fuel, hf⟩ := h
  rcases Go.Deep.open_slice Try.underlying23 hf with ⟨hcs, hx⟩ | ⟨x, l, c, m, n, D, Pl, hcs, _, hl, hm, hmm, hx, hel⟩
  · simp at hcs hx
    obtain ⟨rfl, rfl, rfl⟩ := hcs
    exact ⟨[], RowX.nil _ _ W, (fun s hs => by cases hs), .inl ⟨hx.1, rfl⟩⟩
  · simp at hcs hx hmm
    obtain ⟨rfl, rfl, rfl⟩ := hcs
    have key : ∀ i, i < len → ∃ y : P.Wn, W64 y ∧ W.cell? (x.add (i * 7)) = some (.int .i64 y.t) ∧ W.cell? (x.add (i * 7 + 1)) = some (.int .i64 y.n) ∧ W.cell? (x.add (i * 7 + 2)) = some (.int .i64 y.s) ∧ W.cell? (x.add (i * 7 + 3)) = some (.int .i64 y.mn) ∧ W.cell? (x.add (i * 7 + 4)) = some (.int .i64 y.mx) ∧ W.cell? (x.add (i * 7 + 5)) = some (.int .i64 y.f) ∧ W.cell? (x.add (i * 7 + 6)) = some (.int .i64 y.l) := by
      intro i hi
      obtain ⟨cs', h1, h2⟩ := hel i (by omega)
      rw [cells34] at h1
      obtain ⟨_, hlen, hcell⟩ := World.cells?_some h1
      obtain ⟨xs, k, hk, hxy, _, hxl, hf'⟩ := DataW.trod_struct Try.underlying34 h2
      match xs, hxl, cs', hlen with
      | [y0, y1, y2, y3, y4, y5, y6], _, [v0, v1, v2, v3, v4, v5, v6], _ =>
        have g0 := hf' 0 _ rfl
        have g1 := hf' 1 _ rfl
        have g2 := hf' 2 _ rfl
        have g3 := hf' 3 _ rfl
        have g4 := hf' 4 _ rfl
        have g5 := hf' 5 _ rfl
        have g6 := hf' 6 _ rfl
        simp [cellsT2] at g0 g1 g2 g3 g4 g5 g6
        have e0 := hcell 0 (by omega)
        have e1 := hcell 1 (by omega)
        have e2 := hcell 2 (by omega)
        have e3 := hcell 3 (by omega)
        have e4 := hcell 4 (by omega)
        have e5 := hcell 5 (by omega)
        have e6 := hcell 6 (by omega)
        rw [Go.Deep.add_add] at e0 e1 e2 e3 e4 e5 e6
        obtain ⟨z0, f0, _, w0⟩ := DataW.trod_int Try.underlying2 g0
        obtain ⟨z1, f1, _, w1⟩ := DataW.trod_int Try.underlying2 g1
        obtain ⟨z2, f2, _, w2⟩ := DataW.trod_int Try.underlying2 g2
        obtain ⟨z3, f3, _, w3⟩ := DataW.trod_int Try.underlying2 g3
        obtain ⟨z4, f4, _, w4⟩ := DataW.trod_int Try.underlying2 g4
        obtain ⟨z5, f5, _, w5⟩ := DataW.trod_int Try.underlying2 g5
        obtain ⟨z6, f6, _, w6⟩ := DataW.trod_int Try.underlying2 g6
        simp at f0 f1 f2 f3 f4 f5 f6
        subst f0 f1 f2 f3 f4 f5 f6
        exact ⟨⟨z0, z1, z2, z3, z4, z5, z6⟩, ⟨bounds_i64 w0, bounds_i64 w1, bounds_i64 w2, bounds_i64 w3, bounds_i64 w4, bounds_i64 w5, bounds_i64 w6⟩, by simpa using e0, by simpa using e1, by simpa using e2, by simpa using e3, by simpa using e4, by simpa using e5, by simpa using e6⟩
    have hinh : Inhabited P.Wn := ⟨⟨0, 0, 0, 0, 0, 0, 0⟩⟩
    obtain ⟨f, hf2⟩ := Go.Deep.choose_lt key
    have hlen : ((List.range len).map f).length = len := by simp
    refine ⟨(List.range len).map f, ⟨some x, cap, by rw [hlen], ⟨by rw [hlen]; omega, hm, fun h => by cases h⟩, ?_⟩, ?_, .inr ⟨_, _, hx.1, by simp⟩⟩
    · rcases Nat.eq_zero_or_pos len with h0 | h0
      · exact .inl (by rw [h0]; rfl)
      · right
        obtain ⟨b, off, spot⟩ := x
        have h1 := (hf2 0 (by omega)).2.1
        have hs : spot = none := by simpa [Addr.add] using World.cell?_spot h1
        subst hs
        refine ⟨b, off, rfl, World.block_lt_of_cell? W _ h1, fun j y hy i u hu => ?_⟩
        have hj : j < len := by
          rcases Nat.lt_or_ge j len with h | h
          · exact h
          · rw [List.getElem?_eq_none (by rw [hlen]; exact h)] at hy; cases hy
        simp [hj] at hy
        subst hy
        obtain ⟨_, g0, g1, g2, g3, g4, g5, g6⟩ := hf2 j hj
        have ea : ∀ k, (Addr.add ⟨b, off, none⟩ k) = ⟨b, off + k, none⟩ := by
          intro k
          unfold Addr.add; split
          · rename_i h; subst h; rfl
          · rfl
        rw [ea] at g0 g1 g2 g3 g4 g5 g6
        match i, hu with
        | 0, hu => simp [wnC] at hu; subst hu; rw [Nat.add_zero, g0]
        | 1, hu => simp [wnC] at hu; subst hu; rw [Nat.add_assoc, g1]
        | 2, hu => simp [wnC] at hu; subst hu; rw [Nat.add_assoc, g2]
        | 3, hu => simp [wnC] at hu; subst hu; rw [Nat.add_assoc, g3]
        | 4, hu => simp [wnC] at hu; subst hu; rw [Nat.add_assoc, g4]
        | 5, hu => simp [wnC] at hu; subst hu; rw [Nat.add_assoc, g5]
        | 6, hu => simp [wnC] at hu; subst hu; rw [Nat.add_assoc, g6]
        | (n + 7), hu => simp [wnC] at hu
    · intro s hs
      obtain ⟨i, hi, rfl⟩ := List.mem_map.1 hs
      exact (hf2 i (List.mem_range.1 hi)).1
end Go.Proofs.Ytgfjhcjplhlonaa
