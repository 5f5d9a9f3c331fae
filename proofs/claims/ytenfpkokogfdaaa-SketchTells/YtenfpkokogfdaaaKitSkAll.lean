/- Several texts in one. -/
import Derived.Test.YtenfpkokogfdaaaKitXAll
import Derived.Test.YtenfpkokogfdaaaSketchPAll
/- Sketches as values, rows of texts, and how what came in is opened. -/
namespace Go.Proofs.Ytenfpkokogfdaaa
open Go.ChangeShapes Go.WideShapes Go.ChangeAt Go.RowKit Go.Joins
set_option linter.unusedVariables false
namespace P
/-- What comes in as a sketch. -/
structure Rw where
  d : Int
  w : Int
  c : List Int
  n : Int
def Sk.raw (s : Sk) : Rw := ⟨s.d, s.w, s.c, s.n⟩
def GoodR (s : Rw) : Prop := ∃ S : Sk, SkGood S ∧ S.raw = s
open Classical in
/-- What Check answers. -/
noncomputable def chkS (s : Rw) : Int := if GoodR s then 0 else 4
theorem chkS_ok {s : Rw} (h : GoodR s) : chkS s = 0 := by unfold chkS; rw [if_pos h]
theorem chkS_no {s : Rw} (h : ¬ GoodR s) : chkS s = 4 := by unfold chkS; rw [if_neg h]
end P
theorem below_dn {B : Nat} {a w : World} (h : Below B a w) (n : Nat) : Below B a (w.drewN n) := ⟨h.os, h.tape, h.output, h.size, h.block⟩
theorem below_dr {B : Nat} {a w : World} (h : Below B a w) : Below B a w.drew := ⟨h.os, h.tape, h.output, h.size, h.block⟩
theorem add_none {b off k : Nat} : (Addr.add ⟨b, off, none⟩ k) = ⟨b, off + k, none⟩ := by
  unfold Addr.add; split
  · rename_i h; subst h; rfl
  · rfl
theorem dn_ex {w w' : World} (h : ∃ q, w' = w.drewN q) (n : Nat) : ∃ q, w'.drewN n = w.drewN q := by obtain ⟨q, rfl⟩ := h; exact ⟨_, World.drewN_drewN _ _ _⟩
def stC (x : ByteArray) : List Value := [.string x]
theorem stC_len (x : ByteArray) : (stC x).length = 1 := rfl
theorem stC_one (x : ByteArray) : ∀ u ∈ stC x, u.oneCell' = true := by intro u hu; simp [stC] at hu; subst hu; rfl
theorem infoStr : (Try.prog.info? 9).map (fun i => (i.zero, i.size, i.bytes)) = some (some (.string ⟨#[]⟩), 1, 16) := by kernel_rfl
theorem cells9 : Try.prog.cellsOf 9 = 1 := by kernel_rfl
theorem bytes9 : Try.prog.bytesOf 9 = 16 := by kernel_rfl
theorem cells3 : Try.prog.cellsOf 3 = 1 := by kernel_rfl
theorem cells22 : Try.prog.cellsOf 22 = 1 := by kernel_rfl
theorem cells24 : Try.prog.cellsOf 24 = 4 := by kernel_rfl
abbrev RowT (w : World) (v : Value) (l : List ByteArray) : Prop := RowX stC 1 w v l
theorem RowT.at {w : World} {b off : Nat} {l : List ByteArray} (hc : ∀ j x, l[j]? = some x → ∀ i u, (stC x)[i]? = some u → w.cell? ⟨b, off + j * 1 + i, none⟩ = some u) {k : Nat} {x : ByteArray} (hx : l[k]? = some x) :
    w.cell? ⟨b, off + k, none⟩ = some (.string x) := by have := hc k x hx 0 _ rfl; simpa using this
def TxOk (l : List ByteArray) : Prop := ∀ x ∈ l, x.size ≤ 9223372036854775807
abbrev OwnI (w : World) (base : Nat) (v : Value) (l : List Int) : Prop := OwnK 2 .i64 w base v l
/-- A row's value bears its length. -/
theorem RowK.shp {k : IntKind} {w : World} {v : Value} {l : List Int} (h : RowK k w v l) : ∃ a cap, v = .slice a l.length cap := by obtain ⟨a, cap, h, _⟩ := h; exact ⟨a, cap, h⟩
/-- Numbers of 64 bits. -/
def I64 (l : List Int) : Prop := ∀ x ∈ l, -9223372036854775808 ≤ x ∧ x ≤ 9223372036854775807
theorem i64_of {l : List Int} (h : ∀ n ∈ l, (Lit.int .i64 n).wf = true) : I64 l := fun x hx => bounds_i64 (h x hx)
theorem I64.at {l : List Int} (h : I64 l) (j : Nat) : -9223372036854775808 ≤ l.getD j 0 ∧ l.getD j 0 ≤ 9223372036854775807 := by
  by_cases hj : j < l.length
  · have := h l[j] (List.getElem_mem hj)
    simpa [List.getD_eq_getElem?_getD, List.getElem?_eq_getElem hj] using this
  · simp [List.getD_eq_getElem?_getD, List.getElem?_eq_none (Nat.le_of_not_lt hj)]
abbrev aggS (v : Value) (s : P.Rw) : Value := .agg #[.int .i64 s.d, .int .i64 s.w, v, .int .i64 s.n]
/-- What fits its words. -/
structure RwI (s : P.Rw) : Prop where
  d : -9223372036854775808 ≤ s.d ∧ s.d ≤ 9223372036854775807
  w : -9223372036854775808 ≤ s.w ∧ s.w ≤ 9223372036854775807
  n : -9223372036854775808 ≤ s.n ∧ s.n ≤ 9223372036854775807
  c : I64 s.c
/-- The reach of a slice that stands itself among the arguments, by its length. -/
theorem row_reachN {H : Type} {ts : List TypeId} {ds : List (DataW H)} (hsz : (DataW.weightsEach Try.prog ts ds).all (· ≤ reachBytes) = true) {j : Nat} {d : DataW H} {t e : TypeId} {n : Nat} (ht : ts[j]? = some t) (hd : ds[j]? = some d)
    (hu : Try.prog.underlying t = some (.slice e)) (h : d = .nil ∧ n = 0 ∨ ∃ elems spare, d = .slice elems spare ∧ elems.length = n) : n * Try.prog.bytesOf e ≤ 140737488351232 := by
  rcases h with ⟨_, rfl⟩ | ⟨el, sp, rfl, hl⟩
  · simp
  · have := sized_slice hsz ht hd hu
    have h2 : n * Try.prog.bytesOf e ≤ (el.length + sp.length) * Try.prog.bytesOf e := Nat.mul_le_mul_right _ (by omega)
    have h3 : reachBytes = 140737488351232 := rfl
    omega
/-- A slice of texts that came in, opened. -/
theorem open_texts {H : Type} {enc : TypeId × Value → H} {W : World} {a : Option Addr} {len cap : Nat} {d : DataW H} {p : List MemPlace}
    (h : ∃ fuel, DataW.trod enc Try.prog W 0 (fun _ => true) true fuel 37 [.slice a len cap] = some (d, p)) :
    ∃ l : List ByteArray, RowT W (.slice a len cap) l ∧ TxOk l ∧ (d = .nil ∧ l.length = 0 ∨ ∃ elems spare, d = .slice elems spare ∧ elems.length = l.length) := by
  obtain ⟨fuel, hf⟩ := h
  rcases Go.Deep.open_slice Try.underlying37 hf with ⟨hcs, hx⟩ | ⟨x, l, c, m, n, D, Pl, hcs, _, hl, hm, hmm, hx, hel⟩
  · simp at hcs hx
    obtain ⟨rfl, rfl, rfl⟩ := hcs
    exact ⟨[], RowX.nil _ _ W, (fun s hs => by cases hs), .inl ⟨hx.1, rfl⟩⟩
  · simp at hcs hx hmm
    obtain ⟨rfl, rfl, rfl⟩ := hcs
    have key : ∀ i, i < len → ∃ y : ByteArray, y.size ≤ 9223372036854775807 ∧ W.cell? (x.add i) = some (.string y) := by
      intro i hi
      obtain ⟨cs', h1, h2⟩ := hel i (by omega)
      rw [cells9] at h1
      obtain ⟨_, hlen, hcell⟩ := World.cells?_some h1
      match cs', hlen with
      | [v0], _ =>
        have e0 := hcell 0 (by omega)
        rw [Go.Deep.add_add] at e0
        obtain ⟨z0, f0, _, w0⟩ := DataW.trod_string Try.underlying9 h2
        simp at f0
        subst f0
        exact ⟨z0, w0, by simpa using e0⟩
    obtain ⟨f, hf2⟩ := Go.Deep.choose_lt key
    have hlen : ((List.range len).map f).length = len := by simp
    refine ⟨(List.range len).map f, ⟨some x, cap, by rw [hlen], ⟨by rw [hlen]; omega, hm, fun h => by cases h⟩, ?_⟩, ?_, .inr ⟨_, _, hx.1, by simp⟩⟩
    · rcases Nat.eq_zero_or_pos len with h0 | h0
      · exact .inl (by rw [h0]; rfl)
      · right
        obtain ⟨b, off, spot⟩ := x
        have h1 := (hf2 0 (by omega)).2
        have hs : spot = none := by simpa [Addr.add] using World.cell?_spot h1
        subst hs
        refine ⟨b, off, rfl, World.block_lt_of_cell? W _ h1, fun j y hy i u hu => ?_⟩
        have hj : j < len := by
          rcases Nat.lt_or_ge j len with h | h
          · exact h
          · rw [List.getElem?_eq_none (by rw [hlen]; exact h)] at hy; cases hy
        simp [hj] at hy
        subst hy
        obtain ⟨_, g0⟩ := hf2 j hj
        rw [add_none] at g0
        match i, hu with
        | 0, hu => simp [stC] at hu; subst hu; rw [Nat.add_zero, Nat.mul_one, g0]
        | (n + 1), hu => simp [stC] at hu
    · intro s hs
      obtain ⟨i, hi, rfl⟩ := List.mem_map.1 hs
      exact (hf2 i (List.mem_range.1 hi)).1
theorem array4 {α : Type} {cs : Array α} (h : cs.size = 4) : ∃ c0 c1 c2 c3, cs = #[c0, c1, c2, c3] := by
  obtain ⟨l⟩ := cs
  match l, h with
  | [c0, c1, c2, c3], _ => exact ⟨c0, c1, c2, c3, rfl⟩
set_option maxRecDepth 100000 in
/-- A sketch that came in, opened. -/
theorem open_sketch {H : Type} {enc : TypeId × Value → H} {W : World} {base : Nat} {v : Value} {d : DataW H} {p : List MemPlace} (hv : Value.okWide Try.prog W .any base 24 v) (h : DataW.Trod enc Try.prog W 0 (fun _ => true) true 24 v d p) :
    ∃ (cv : Value) (s : P.Rw), v = aggS cv s ∧ RowK .i64 W cv s.c ∧ RwI s := by
  obtain ⟨cs, rfl, hsz⟩ := okWide_struct Try.underlying24 hv
  obtain ⟨c0, c1, c2, c3, rfl⟩ := array4 (hsz.trans cells24)
  obtain ⟨fuel, hf⟩ := h
  obtain ⟨xs, n, _, _, _, hxl, hfs⟩ := DataW.trod_struct Try.underlying24 hf
  match xs, hxl with
  | [y0, y1, y2, y3], _ =>
    have g0 := hfs 0 _ rfl
    have g1 := hfs 1 _ rfl
    have g2 := hfs 2 _ rfl
    have g3 := hfs 3 _ rfl
    simp [cells3, cells22, cells2, Value.cells] at g0 g1 g2 g3
    obtain ⟨k, e0, _, w0⟩ := DataW.trod_int Try.underlying3 g0
    obtain ⟨k1, e1, _, w1⟩ := DataW.trod_int Try.underlying3 g1
    obtain ⟨a1, l1, p1, e2⟩ := slice_form Try.underlying22 g2
    obtain ⟨m, e3, _, w3⟩ := DataW.trod_int Try.underlying2 g3
    simp at e0 e1 e2 e3
    subst e0 e1 e2 e3
    obtain ⟨L, r1, wL, _⟩ := open_row Try.underlying22 Try.underlying2 cells2 ⟨n, g2⟩
    exact ⟨_, ⟨k, k1, L, m⟩, rfl, r1, ⟨bounds_i64 w0, bounds_i64 w1, bounds_i64 w3, i64_of wL⟩⟩
end Go.Proofs.Ytenfpkokogfdaaa
