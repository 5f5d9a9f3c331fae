/- What the document's own Wider answers. -/
import Derived.Test.YtgfjhcjplhlonaaRefRoll
import Derived.Test.YtgfjhcjplhlonaaRollQ
namespace Go.Proofs.Ytgfjhcjplhlonaa
open Go.RowKit
set_option linter.unusedVariables false
namespace P
/-- How the road of the document stands: what is told, what is left. -/
def WidO (g : Int → Int) (l O R : List Wn) : Prop := O ++ grp g R = grp g l ∧ (∀ y ∈ O, y.n ≤ 1000000000) ∧ Pos R ∧ (∀ y ∈ R, y.n ≤ 1000000000) ∧ nsum R ≤ 1000000000000
def WidI (g : Int → Int) (l O : List Wn) (x : Wn) (R : List Wn) : Prop := O ++ cat [x] (grp g R) = grp g l ∧ (∀ y ∈ O, y.n ≤ 1000000000) ∧ (1 ≤ x.n ∧ x.n ≤ 1000000000) ∧ Pos R ∧ (∀ y ∈ R, y.n ≤ 1000000000) ∧ x.n + nsum R ≤ 1000000000000
theorem nsum_nn {l : List Wn} (h : Pos l) : 0 ≤ nsum l := by have := nsum_pos h; omega
theorem wid_open {g : Int → Int} {l O R : List Wn} {r : Wn} (h : WidO g l O (r :: R)) : WidI g l O (at' (g r.t) r) R := by
  obtain ⟨h1, h2, h3, h4, h5⟩ := h
  exact ⟨h1, h2, ⟨h3 r List.mem_cons_self, h4 r List.mem_cons_self⟩, fun y hy => h3 y (List.mem_cons_of_mem _ hy), fun y hy => h4 y (List.mem_cons_of_mem _ hy), h5⟩
theorem wid_bo {g : Int → Int} {l O R : List Wn} {x r : Wn} (h : WidI g l O x (r :: R)) (e : g r.t = x.t) : O ++ cat [bo x r] (grp g R) = grp g l ∧ (bo x r).n = x.n + r.n ∧ 1 ≤ (bo x r).n ∧ Pos R ∧ (bo x r).n + nsum R ≤ 1000000000000 := by
  obtain ⟨h1, h2, ⟨h3, h4⟩, h5, h6, h7⟩ := h
  have hr1 := h5 r List.mem_cons_self
  have hr2 := h6 r List.mem_cons_self
  have hp : Pos R := fun y hy => h5 y (List.mem_cons_of_mem _ hy)
  simp only [nsum] at h7
  have hn : (bo x r).n = x.n + r.n := by simp only [bo, IntKind.wrap_i64]; omega
  refine ⟨?_, hn, by omega, hp, by rw [hn]; omega⟩
  have hc : cat [x] [at' (g r.t) r] = [bo x r] := by
    show (if x.t = (at' (g r.t) r).t then [bo x (at' (g r.t) r)] else [x, at' (g r.t) r]) = [bo x r]
    rw [if_pos (show x.t = (at' (g r.t) r).t from e.symm)]
    rfl
  rw [← h1, grp, ← cat_assoc, hc]
theorem wid_step {g : Int → Int} {l O R : List Wn} {x r : Wn} (h : WidI g l O x (r :: R)) (e : g r.t = x.t) (hn : (bo x r).n ≤ 1000000000) : WidI g l O (bo x r) R := by
  obtain ⟨b1, b2, b3, b4, b5⟩ := wid_bo h e
  exact ⟨b1, h.2.1, ⟨b3, hn⟩, b4, fun y hy => h.2.2.2.2.1 y (List.mem_cons_of_mem _ hy), b5⟩
theorem crowd_cat {x : Wn} {m : List Wn} (hm : Pos m) (hs : x.n + nsum m ≤ 1000000000000) (hx : 1000000000 < x.n) : crowd (cat [x] m) = true := by
  cases m with
  | nil => simp [cat, crowd]; omega
  | cons y m =>
    have h1 := hm y List.mem_cons_self
    have h2 : 0 ≤ nsum m := nsum_nn fun z hz => hm z (List.mem_cons_of_mem _ hz)
    simp only [nsum] at hs
    simp only [cat]
    split
    · have e : (bo x y).n = x.n + y.n := by simp only [bo, IntKind.wrap_i64]; omega
      simp only [crowd, List.any_cons, e]
      have : decide (1000000000 < x.n + y.n) = true := by simp; omega
      rw [this]; rfl
    · simp only [crowd, List.any_cons]
      have : decide (1000000000 < x.n) = true := by simp; omega
      rw [this]; rfl
theorem wid_over {g : Int → Int} {l O R : List Wn} {x r : Wn} (h : WidI g l O x (r :: R)) (e : g r.t = x.t) (hn : 1000000000 < (bo x r).n) : crowd (grp g l) = true := by
  obtain ⟨b1, b2, b3, b4, b5⟩ := wid_bo h e
  have h0 := nsum_nn b4
  obtain ⟨g1, g2⟩ := grp_n g b4 (by omega)
  have hc := crowd_cat g1 (by rw [g2]; exact b5) hn
  rw [← b1]
  unfold crowd at hc ⊢
  rw [List.any_append, hc, Bool.or_true]
theorem wid_shut {g : Int → Int} {l O R : List Wn} {x : Wn} (h : WidI g l O x R) (e : R = [] ∨ ∃ r R', R = r :: R' ∧ ¬ g r.t = x.t) : WidO g l (O ++ [x]) R := by
  obtain ⟨h1, h2, ⟨h3, h4⟩, h5, h6, h7⟩ := h
  refine ⟨?_, fun y hy => ?_, h5, h6, by omega⟩
  · rw [← h1, List.append_assoc]
    congr 1
    rcases e with rfl | ⟨r, R', rfl, hne⟩
    · rfl
    · obtain ⟨y, m, e1, e2⟩ := cat_head (x := at' (g r.t) r) (l := []) (m := grp g R')
      rw [grp, e1]
      simp only [cat]
      rw [if_neg (by rw [e2]; simp only [at']; omega)]
      rfl
  · rcases List.mem_append.1 hy with hy | hy
    · exact h2 y hy
    · simp at hy; subst hy; exact h4
theorem wid_end {g : Int → Int} {l O : List Wn} (h : WidO g l O []) : O = grp g l ∧ crowd (grp g l) = false := by
  have e : O = grp g l := by have := h.1; simpa [grp] using this
  exact ⟨e, by rw [← e]; exact crowd_false h.2.1⟩
theorem wid_len {g : Int → Int} {l O R : List Wn} {x : Wn} (h : WidI g l O x R) : O.length ≤ l.length := by
  have h1 := grp_length g l
  rw [← h.1, List.length_append] at h1
  omega
theorem wid_start (g : Int → Int) {l : List Wn} (h : ∀ x ∈ l, 1 ≤ x.n ∧ x.n ≤ 1000000000) (hl : l.length ≤ 1000) : WidO g l [] l := by
  refine ⟨rfl, fun y hy => (by cases hy), fun x hx => (h x hx).1, fun x hx => (h x hx).2, ?_⟩
  have key : ∀ m : List Wn, (∀ x ∈ m, x.n ≤ 1000000000) → nsum m ≤ 1000000000 * (m.length : Int) := by
    intro m hm
    induction m with
    | nil => simp [nsum]
    | cons y m ih =>
      have h1 := ih fun z hz => hm z (List.mem_cons_of_mem _ hz)
      have h2 := hm y List.mem_cons_self
      simp only [nsum, List.length_cons]
      omega
  have := key l fun x hx => (h x hx).2
  omega
end P
/-- A window in a box of the call's own. -/
def BoxW (w : World) (b : Nat) (x : P.Wn) : Prop := w.heap[b]? = some (.cells (wnC x).toArray 34 (0, 0))
theorem BoxW.at7 {w : World} {b : Nat} {x : P.Wn} (h : BoxW w b x) : At7 w b 0 x := by
  unfold BoxW at h
  have k : ∀ j u, (wnC x)[j]? = some u → w.cell? ⟨b, j, none⟩ = some u := by
    intro j u hu
    simp [World.cell?, h, hu]
  exact ⟨k 0 _ rfl, k 1 _ rfl, k 2 _ rfl, k 3 _ rfl, k 4 _ rfl, k 5 _ rfl, k 6 _ rfl⟩
theorem BoxW.unfrozen {w : World} {b : Nat} {x : P.Wn} (h : BoxW w b x) (j : Nat) : w.frozen? ⟨b, j, none⟩ = false := by
  unfold BoxW at h
  simp [World.frozen?, h]
theorem BoxW.below {w w' : World} {b B : Nat} {x : P.Wn} (h : BoxW w b x) (hb : Below B w w') (hB : b < B) : BoxW w' b x := by
  unfold BoxW at h ⊢
  rw [hb.block b hB]; exact h
theorem BoxW.dn {w : World} {b : Nat} {x : P.Wn} (h : BoxW w b x) (q : Nat) : BoxW (w.drewN q) b x := h
theorem BoxW.new (w : World) (x : P.Wn) : BoxW (w.alloc (.cells #[.int .i64 x.t, .int .i64 x.n, .int .i64 x.s, .int .i64 x.mn, .int .i64 x.mx, .int .i64 x.f, .int .i64 x.l] 34)) w.heap.size x := heap_alloc_new w _
theorem BoxW.set {w : World} {b : Nat} {x : P.Wn} (h : BoxW w b x) (y : P.Wn) : BoxW (setRowC w b 0 (wnC y)) b y := by
  obtain ⟨c, h1, h2⟩ := setRowC_heap (wnC y) 0 h
  unfold BoxW
  rw [h1]
  have : c = (wnC y).toArray := by
    apply Array.toList_inj.1
    rw [h2]
    have := setL_front (wnC x) [] (wnC y) rfl
    simpa using this
  rw [this]
theorem BoxW.lt {w : World} {b : Nat} {x : P.Wn} (h : BoxW w b x) : b < w.heap.size := (Array.getElem?_eq_some_iff.1 h).1
def P.Near (l : List P.Wn) : Prop := ∀ y ∈ l, -1152921504606846976 ≤ y.t ∧ y.t ≤ 1152921504606846976
/-- How the loops of Wider stand. -/
def WdOut (w : World) (g : Int → Int) (l : List P.Wn) (v0 vo : Value) (wr : World) : Prop :=
  ∃ O R, RowW w v0 R ∧ P.Near R ∧ OwnW wr w.heap.size vo O ∧ P.WidO g l O R ∧ Below w.heap.size w wr
def WdIn (w W : World) (g : Int → Int) (l O : List P.Wn) (t : Int) (m : Nat) (v0 : Value) (wr : World) : Prop :=
  ∃ x R, RowW w v0 R ∧ R.length ≤ m ∧ P.Near R ∧ x.t = t ∧ BoxW wr W.heap.size x ∧ P.WidI g l O x R ∧ Below W.heap.size W wr
def lenX : Value → Nat | .slice _ n _ => n | _ => 0
theorem wider_arg (v : Value) (l : List P.Wn) (wd : Int) (w : World) (hr : RowW w v l) (h : wd < 1 ∨ 1099511627776 < wd) : Calls Try.prog 11 #[v, .int .i64 wd] w (WPost w (P.rerr l wd) (P.rout l wd)) := by
  have e := P.rerr_arg (l := l) h
  rw [P.rout_bad (show P.rerr l wd ≠ 0 by omega), e]
  obtain ⟨a, cap, rfl, _⟩ := hr
  by_cases h1 : wd < 1
  · clear h
    go_enter Try.func11, Try.ntmps11
    go_wp2
    go_ret2
    exact wpost_bad (Below.refl _ _)
  · have h2 : 1099511627776 < wd := by omega
    have d1 : decide (wd < 1) = false := by simpa using h1
    clear h
    go_enter Try.func11, Try.ntmps11
    go_wp2
    go_ret2
    exact wpost_bad (Below.refl _ _)
end Go.Proofs.Ytgfjhcjplhlonaa
