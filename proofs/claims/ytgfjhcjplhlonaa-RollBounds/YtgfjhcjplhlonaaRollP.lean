/- Plain: windows of samples: how they are put together, what falls together, and the laws of it. -/
import Derived.Test.YtgfjhcjplhlonaaChunkP
namespace Go.Proofs.Ytgfjhcjplhlonaa
set_option linter.unusedVariables false
namespace P
/-- A window. -/
structure Wn where
  t : Int
  n : Int
  s : Int
  mn : Int
  mx : Int
  f : Int
  l : Int
theorem wn_ext {x y : Wn} (h0 : x.t = y.t) (h1 : x.n = y.n) (h2 : x.s = y.s) (h3 : x.mn = y.mn) (h4 : x.mx = y.mx) (h5 : x.f = y.f) (h6 : x.l = y.l) : x = y := by
  cases x; cases y; simp at *; exact ⟨h0, h1, h2, h3, h4, h5, h6⟩
theorem wrap_l (a b : Int) : IntKind.i64.wrap (IntKind.i64.wrap a + b) = IntKind.i64.wrap (a + b) := by simp only [IntKind.wrap_i64]; omega
theorem wrap_r (a b : Int) : IntKind.i64.wrap (a + IntKind.i64.wrap b) = IntKind.i64.wrap (a + b) := by simp only [IntKind.wrap_i64]; omega
/-- Two windows as one. -/
def bo (a b : Wn) : Wn := ⟨a.t, IntKind.i64.wrap (a.n + b.n), IntKind.i64.wrap (a.s + b.s), min a.mn b.mn, max a.mx b.mx, a.f, b.l⟩
theorem bo_t (a b : Wn) : (bo a b).t = a.t := rfl
theorem bo_assoc (a b c : Wn) : bo (bo a b) c = bo a (bo b c) := by
  refine wn_ext rfl ?_ ?_ ?_ ?_ rfl rfl
  · simp only [bo, wrap_l, wrap_r, Int.add_assoc]
  · simp only [bo, wrap_l, wrap_r, Int.add_assoc]
  · simp only [bo, Int.min_assoc]
  · simp only [bo, Int.max_assoc]
/-- A window moved to another time. -/
def at' (t : Int) (x : Wn) : Wn := ⟨t, x.n, x.s, x.mn, x.mx, x.f, x.l⟩
theorem at_bo (t : Int) (a b : Wn) : at' t (bo a b) = bo (at' t a) b := rfl
theorem bo_at (t : Int) (a b : Wn) : bo a (at' t b) = bo a b := rfl
/-- The last windows of the one and the first one of the other: as one, if they are of one time. -/
def cat : List Wn → List Wn → List Wn
  | [], m => m
  | [x], [] => [x]
  | [x], y :: m => if x.t = y.t then bo x y :: m else x :: y :: m
  | x :: x' :: l, m => x :: cat (x' :: l) m
theorem cat_nil (l : List Wn) : cat l [] = l := by
  induction l with
  | nil => rfl
  | cons x l ih =>
    cases l with
    | nil => rfl
    | cons y l => simp only [cat, ih]
theorem cat_cons {x : Wn} {l m : List Wn} (h : l ≠ []) : cat (x :: l) m = x :: cat l m := by
  cases l with
  | nil => exact absurd rfl h
  | cons y l => rfl
theorem cat_ne {l m : List Wn} (h : l ≠ []) : cat l m ≠ [] := by
  cases l with
  | nil => exact absurd rfl h
  | cons x l =>
    cases l with
    | nil =>
      cases m with
      | nil => simp [cat]
      | cons y m => simp only [cat]; split <;> simp
    | cons y l => simp [cat]
/-- The first window's time does not hang on what follows. -/
theorem cat_head {x : Wn} {l m : List Wn} : ∃ y r, cat (x :: l) m = y :: r ∧ y.t = x.t := by
  cases l with
  | nil =>
    cases m with
    | nil => exact ⟨x, [], rfl, rfl⟩
    | cons y m =>
      simp only [cat]
      split
      · exact ⟨_, _, rfl, rfl⟩
      · exact ⟨_, _, rfl, rfl⟩
  | cons y l => exact ⟨_, _, rfl, rfl⟩
theorem cat_assoc (a b c : List Wn) : cat (cat a b) c = cat a (cat b c) := by
  induction a with
  | nil => rfl
  | cons x a ih =>
    cases a with
    | cons x' a =>
      show cat (x :: cat (x' :: a) b) c = x :: cat (x' :: a) (cat b c)
      rw [cat_cons (cat_ne (by simp)), ih]
    | nil =>
      cases b with
      | nil => rfl
      | cons y b =>
        cases b with
        | nil =>
          cases c with
          | nil => rw [cat_nil, cat_nil]
          | cons z c =>
            simp only [cat]
            by_cases h1 : x.t = y.t
            · by_cases h2 : y.t = z.t
              · have h3 : x.t = z.t := by omega
                simp [h1, h2, cat, bo_t, bo_assoc]
              · have h3 : ¬ x.t = z.t := by omega
                simp [h1, h2, cat, bo_t]
            · by_cases h2 : y.t = z.t
              · have h3 : ¬ x.t = z.t := by omega
                simp [h2, h3, cat, bo_t]
              · simp [h1, h2, cat]
        | cons y' b =>
          rw [cat_cons (l := y' :: b) (by simp)]
          simp only [cat]
          split
          · rw [cat_cons (by simp)]
          · rw [cat_cons (by simp), cat_cons (by simp)]
theorem cat_snoc (l : List Wn) (x y : Wn) : cat (l ++ [x]) [y] = if x.t = y.t then l ++ [bo x y] else l ++ [x, y] := by
  induction l with
  | nil => simp only [List.nil_append, cat]
  | cons z l ih =>
    rw [List.cons_append, cat_cons (by simp), ih]
    split <;> rfl
/-- What falls together: the time of each window goes to g of it. -/
def grp (g : Int → Int) : List Wn → List Wn
  | [] => []
  | x :: l => cat [at' (g x.t) x] (grp g l)
theorem grp_append (g : Int → Int) (l m : List Wn) : grp g (l ++ m) = cat (grp g l) (grp g m) := by
  induction l with
  | nil => rfl
  | cons x l ih => simp only [List.cons_append, grp, ih, cat_assoc]
theorem grp_snoc (g : Int → Int) (l : List Wn) (x : Wn) : grp g (l ++ [x]) = cat (grp g l) [at' (g x.t) x] := by
  rw [grp_append]; rfl
theorem grp_nil {g : Int → Int} {l : List Wn} (h : grp g l = []) : l = [] := by
  cases l with
  | nil => rfl
  | cons x l => exact absurd h (cat_ne (by simp))
theorem grp_cat (g : Int → Int) (a b : List Wn) : grp g (cat a b) = cat (grp g a) (grp g b) := by
  induction a with
  | nil => rfl
  | cons x a ih =>
    cases a with
    | cons y a => rw [cat_cons (by simp), grp, ih, ← cat_assoc]; rfl
    | nil =>
      cases b with
      | nil => rw [cat_nil, grp, cat_nil]
      | cons y b =>
        simp only [cat]
        by_cases h : x.t = y.t
        · rw [if_pos h]
          simp only [grp]
          rw [← cat_assoc, cat_nil]
          congr 1
          simp only [cat, at_bo, bo_at, bo_t]
          rw [if_pos (by simp only [at']; rw [h])]
        · rw [if_neg h]
          simp only [grp, cat_nil]
/-- Windows that fall together, and then once more. -/
theorem grp_grp {g h : Int → Int} (hg : ∀ t, h (g t) = h t) (l : List Wn) : grp h (grp g l) = grp h l := by
  induction l with
  | nil => rfl
  | cons x l ih =>
    rw [grp, grp_cat, ih]
    simp only [grp, cat_nil, at', hg]
theorem cat_mem_t {a b : List Wn} {y : Wn} (h : y ∈ cat a b) : (∃ x ∈ a, x.t = y.t) ∨ ∃ x ∈ b, x.t = y.t := by
  induction a with
  | nil => exact .inr ⟨y, h, rfl⟩
  | cons x a ih =>
    cases a with
    | cons x' a =>
      rw [cat_cons (by simp)] at h
      rcases List.mem_cons.1 h with rfl | h
      · exact .inl ⟨_, List.mem_cons_self, rfl⟩
      · rcases ih h with ⟨z, hz, e⟩ | hz
        · exact .inl ⟨z, List.mem_cons_of_mem _ hz, e⟩
        · exact .inr hz
    | nil =>
      cases b with
      | nil => exact .inl ⟨y, h, rfl⟩
      | cons z b =>
        simp only [cat] at h
        split at h
        · rcases List.mem_cons.1 h with rfl | h
          · exact .inl ⟨x, List.mem_cons_self, rfl⟩
          · exact .inr ⟨y, List.mem_cons_of_mem _ h, rfl⟩
        · rcases List.mem_cons.1 h with rfl | h
          · exact .inl ⟨_, List.mem_cons_self, rfl⟩
          · exact .inr ⟨y, h, rfl⟩
theorem grp_mem_t {g : Int → Int} {l : List Wn} {y : Wn} (h : y ∈ grp g l) : ∃ x ∈ l, g x.t = y.t := by
  induction l generalizing y with
  | nil => cases h
  | cons x l ih =>
    rcases cat_mem_t h with ⟨z, hz, e⟩ | ⟨z, hz, e⟩
    · simp at hz; subst hz; exact ⟨x, List.mem_cons_self, e⟩
    · obtain ⟨u, hu, e2⟩ := ih hz
      exact ⟨u, List.mem_cons_of_mem _ hu, e2.trans e⟩
theorem cat_length (a b : List Wn) : (cat a b).length ≤ a.length + b.length := by
  induction a with
  | nil => simp [cat]
  | cons x a ih =>
    cases a with
    | cons x' a => rw [cat_cons (by simp)]; simp at ih ⊢; omega
    | nil =>
      cases b with
      | nil => simp [cat]
      | cons y b => simp only [cat]; split <;> simp <;> omega
theorem grp_length (g : Int → Int) (l : List Wn) : (grp g l).length ≤ l.length := by
  induction l with
  | nil => simp [grp]
  | cons x l ih => have := cat_length [at' (g x.t) x] (grp g l); simp [grp] at this ⊢; omega
/-- Windows by rising times. -/
def RisW (l : List Wn) : Prop := l.Pairwise fun x y => x.t < y.t
def Wk (l : List Wn) : Prop := l.Pairwise fun x y => x.t ≤ y.t
theorem RisW.wk {l : List Wn} (h : RisW l) : Wk l := h.imp fun h => Int.le_of_lt h
theorem RisW.tail {x : Wn} {l : List Wn} (h : RisW (x :: l)) : RisW l := (List.pairwise_cons.1 h).2
theorem RisW.head {x : Wn} {l : List Wn} (h : RisW (x :: l)) : ∀ y ∈ l, x.t < y.t := (List.pairwise_cons.1 h).1
theorem cat_one_ris {x : Wn} {m : List Wn} (h : ∀ y ∈ m, x.t ≤ y.t) (hm : RisW m) : RisW (cat [x] m) := by
  cases m with
  | nil => exact List.pairwise_singleton _ _
  | cons y m =>
    simp only [cat]
    have h0 := h y List.mem_cons_self
    split
    · rename_i e
      exact List.pairwise_cons.2 ⟨fun z hz => by have := hm.head z hz; simp only [bo_t]; omega, hm.tail⟩
    · exact List.pairwise_cons.2 ⟨fun z hz => by
        rcases List.mem_cons.1 hz with rfl | hz
        · omega
        · have := hm.head z hz; omega, hm⟩
theorem grp_ris {g : Int → Int} (hg : ∀ s t, s ≤ t → g s ≤ g t) {l : List Wn} (h : Wk l) : RisW (grp g l) := by
  induction l with
  | nil => exact List.Pairwise.nil
  | cons x l ih =>
    obtain ⟨h1, h2⟩ := List.pairwise_cons.1 h
    refine cat_one_ris (fun y hy => ?_) (ih h2)
    obtain ⟨z, hz, e⟩ := grp_mem_t hy
    rw [← e]; exact hg _ _ (h1 z hz)
/-- How many samples windows tell of. -/
def nsum : List Wn → Int
  | [] => 0
  | x :: l => x.n + nsum l
def Pos (l : List Wn) : Prop := ∀ x ∈ l, 1 ≤ x.n
theorem nsum_pos {l : List Wn} (h : Pos l) : (l.length : Int) ≤ nsum l := by
  induction l with
  | nil => simp [nsum]
  | cons x l ih =>
    have h1 := h x List.mem_cons_self
    have h2 := ih fun y hy => h y (List.mem_cons_of_mem _ hy)
    simp only [nsum, List.length_cons]; omega
theorem nsum_mem {l : List Wn} (h : Pos l) {x : Wn} (hx : x ∈ l) : x.n ≤ nsum l := by
  induction l with
  | nil => cases hx
  | cons y l ih =>
    have h1 := h y List.mem_cons_self
    have h3 : Pos l := fun z hz => h z (List.mem_cons_of_mem _ hz)
    have h2 := nsum_pos h3
    rcases List.mem_cons.1 hx with rfl | hx
    · simp only [nsum]; omega
    · have := ih h3 hx; simp only [nsum]; omega
theorem cat_one_n {x : Wn} {m : List Wn} (hx : 1 ≤ x.n) (hm : Pos m) (hs : x.n + nsum m ≤ 4611686018427387904) : Pos (cat [x] m) ∧ nsum (cat [x] m) = x.n + nsum m := by
  cases m with
  | nil => exact ⟨fun y hy => by simp [cat] at hy; subst hy; exact hx, rfl⟩
  | cons y m =>
    have h1 := hm y List.mem_cons_self
    have h3 : Pos m := fun z hz => hm z (List.mem_cons_of_mem _ hz)
    have h2 := nsum_pos h3
    simp only [nsum] at hs
    simp only [cat]
    split
    · have e : (bo x y).n = x.n + y.n := by simp only [bo, IntKind.wrap_i64]; omega
      refine ⟨fun z hz => ?_, by simp only [nsum, e]; omega⟩
      rcases List.mem_cons.1 hz with rfl | hz
      · omega
      · exact h3 z hz
    · refine ⟨fun z hz => ?_, rfl⟩
      rcases List.mem_cons.1 hz with rfl | hz
      · exact hx
      · exact hm z hz
theorem grp_n (g : Int → Int) {l : List Wn} (h : Pos l) (hs : nsum l ≤ 4611686018427387904) : Pos (grp g l) ∧ nsum (grp g l) = nsum l := by
  induction l with
  | nil => exact ⟨h, rfl⟩
  | cons x l ih =>
    have h1 := h x List.mem_cons_self
    have h3 : Pos l := fun z hz => h z (List.mem_cons_of_mem _ hz)
    simp only [nsum] at hs
    obtain ⟨i1, i2⟩ := ih h3 (by omega)
    have := cat_one_n (x := at' (g x.t) x) (m := grp g l) h1 i1 (by rw [i2]; exact hs)
    rw [i2] at this
    exact this
/-- What all windows' sums are. -/
def ssum : List Wn → Int
  | [] => 0
  | x :: l => x.s + ssum l
theorem cat_one_s (x : Wn) (m : List Wn) : IntKind.i64.wrap (ssum (cat [x] m)) = IntKind.i64.wrap (x.s + ssum m) := by
  cases m with
  | nil => rfl
  | cons y m =>
    simp only [cat]
    split
    · simp only [ssum, bo, wrap_l, Int.add_assoc]
    · rfl
theorem grp_s (g : Int → Int) (l : List Wn) : IntKind.i64.wrap (ssum (grp g l)) = IntKind.i64.wrap (ssum l) := by
  induction l with
  | nil => rfl
  | cons x l ih =>
    rw [grp, cat_one_s, ← wrap_r, ih, wrap_r]; rfl
/-- What is asked of a window's bounds. -/
def mmOk (x : Wn) : Prop := x.mn ≤ x.f ∧ x.mn ≤ x.l ∧ x.mn ≤ x.mx ∧ x.f ≤ x.mx ∧ x.l ≤ x.mx
theorem bo_mm {x y : Wn} (hx : mmOk x) (hy : mmOk y) : mmOk (bo x y) := by
  obtain ⟨a1, a2, a3, a4, a5⟩ := hx
  obtain ⟨b1, b2, b3, b4, b5⟩ := hy
  simp only [mmOk, bo]
  omega
theorem cat_one_mm {x : Wn} {m : List Wn} (hx : mmOk x) (hm : ∀ y ∈ m, mmOk y) : ∀ y ∈ cat [x] m, mmOk y := by
  cases m with
  | nil => intro y hy; simp [cat] at hy; subst hy; exact hx
  | cons y m =>
    simp only [cat]
    split
    · intro z hz
      rcases List.mem_cons.1 hz with rfl | hz
      · exact bo_mm hx (hm y List.mem_cons_self)
      · exact hm z (List.mem_cons_of_mem _ hz)
    · intro z hz
      rcases List.mem_cons.1 hz with rfl | hz
      · exact hx
      · exact hm z hz
theorem grp_mm (g : Int → Int) {l : List Wn} (h : ∀ x ∈ l, mmOk x) : ∀ y ∈ grp g l, mmOk y := by
  induction l with
  | nil => intro y hy; cases hy
  | cons x l ih => exact cat_one_mm (h x List.mem_cons_self) (ih fun y hy => h y (List.mem_cons_of_mem _ hy))
/-- Is a window right by itself? -/
def okW (x : Wn) : Prop := (1 ≤ x.n ∧ x.n ≤ 1000000000) ∧ mmOk x
theorem okW_dec (x : Wn) : okW x ∨ ¬ okW x := Classical.em _
def okB (x : Wn) : Bool := decide (1 ≤ x.n) && decide (x.n ≤ 1000000000) && (decide (x.mn ≤ x.f) && decide (x.mn ≤ x.l) && decide (x.mn ≤ x.mx) && decide (x.f ≤ x.mx) && decide (x.l ≤ x.mx))
theorem okB_iff (x : Wn) : okB x = true ↔ okW x := by simp [okB, okW, mmOk, and_assoc]
/-- What Check answers behind a time. -/
def chkF : Option Int → List Wn → Int
  | _, [] => 0
  | p, x :: l => if okB x = false then 4 else if (p.any fun t => decide (x.t ≤ t)) = true then 5 else chkF (some x.t) l
def chkW (l : List Wn) : Int := if 1000 < l.length then 2 else chkF none l
theorem chkF_zero {p : Option Int} {l : List Wn} (h : chkF p l = 0) : (∀ x ∈ l, okW x) ∧ RisW l ∧ ∀ t, p = some t → ∀ x ∈ l, t < x.t := by
  induction l generalizing p with
  | nil => exact ⟨fun x hx => (by cases hx), List.Pairwise.nil, fun t _ x hx => (by cases hx)⟩
  | cons x l ih =>
    simp only [chkF] at h
    split at h
    · omega
    · rename_i h1
      split at h
      · omega
      · rename_i h2
        obtain ⟨i1, i2, i3⟩ := ih h
        refine ⟨fun y hy => ?_, List.pairwise_cons.2 ⟨i3 _ rfl, i2⟩, fun t ht y hy => ?_⟩
        · rcases List.mem_cons.1 hy with rfl | hy
          · exact (okB_iff y).1 (by simpa using h1)
          · exact i1 y hy
        · subst ht
          simp at h2
          rcases List.mem_cons.1 hy with rfl | hy
          · exact h2
          · have := i3 _ rfl y hy; omega
theorem chkF_ok {p : Option Int} {l : List Wn} (h1 : ∀ x ∈ l, okW x) (h2 : RisW l) (h3 : ∀ t, p = some t → ∀ x ∈ l, t < x.t) : chkF p l = 0 := by
  induction l generalizing p with
  | nil => rfl
  | cons x l ih =>
    simp only [chkF]
    rw [if_neg (by rw [(okB_iff x).2 (h1 x List.mem_cons_self)]; simp), if_neg]
    · exact ih (fun y hy => h1 y (List.mem_cons_of_mem _ hy)) h2.tail fun t ht y hy => by cases ht; exact h2.head y hy
    · cases p with
      | none => simp
      | some t => have := h3 t rfl x List.mem_cons_self; simp; omega
theorem chkW_zero {l : List Wn} (h : chkW l = 0) : l.length ≤ 1000 ∧ (∀ x ∈ l, okW x) ∧ RisW l := by
  unfold chkW at h
  split at h
  · omega
  · obtain ⟨h1, h2, _⟩ := chkF_zero h
    exact ⟨by omega, h1, h2⟩
theorem chkW_ok {l : List Wn} (h : l.length ≤ 1000) (h1 : ∀ x ∈ l, okW x) (h2 : RisW l) : chkW l = 0 := by
  unfold chkW
  rw [if_neg (by omega)]
  exact chkF_ok h1 h2 fun t ht => by cases ht
/-- Where a window begins. -/
def beg (w t : Int) : Int := t - t % w
theorem beg_mono {w : Int} (hw : 1 ≤ w) (s t : Int) (h : s ≤ t) : beg w s ≤ beg w t := by
  have e : ∀ t, beg w t = w * (t / w) := fun t => by unfold beg; have := Int.mul_ediv_add_emod t w; omega
  rw [e, e]
  exact Int.mul_le_mul_of_nonneg_left (Int.ediv_le_ediv (by omega) h) (by omega)
theorem beg_beg {w k : Int} (hw : 1 ≤ w) (hk : 1 ≤ k) (t : Int) : beg (w * k) (beg w t) = beg (w * k) t := by
  have e : ∀ w t, beg w t = w * (t / w) := fun w t => by unfold beg; have := Int.mul_ediv_add_emod t w; omega
  rw [e, e, e, Int.mul_ediv_mul_of_pos _ _ (by omega), Int.ediv_ediv_of_nonneg (by omega)]
theorem beg_le {w : Int} (hw : 1 ≤ w) (t : Int) : beg w t ≤ t ∧ t - w < beg w t := by
  unfold beg
  have h1 := Int.emod_nonneg t (show w ≠ 0 by omega)
  have h2 := Int.emod_lt_of_pos t (show 0 < w by omega)
  omega
/-- Is a time too far? -/
def far (l : List Wn) : Bool := l.any fun x => decide (x.t < -1152921504606846976) || decide (1152921504606846976 < x.t)
/-- Does a window tell of too many? -/
def crowd (l : List Wn) : Bool := l.any fun x => decide (1000000000 < x.n)
/-- The error of windows that are put together. -/
def rerr (l : List Wn) (w : Int) : Int := if w < 1 then 1 else if 1099511627776 < w then 1 else if far l = true then 6 else if crowd (grp (beg w) l) = true then 2 else 0
theorem rerr_zero {l : List Wn} {w : Int} (h : rerr l w = 0) : 1 ≤ w ∧ w ≤ 1099511627776 ∧ far l = false ∧ crowd (grp (beg w) l) = false := by
  unfold rerr at h
  split at h
  · omega
  · split at h
    · omega
    · split at h
      · omega
      · split at h
        · omega
        · rename_i h1 h2 h3 h4
          exact ⟨by omega, by omega, by simpa using h3, by simpa using h4⟩
/-- Samples, each a window of its own. -/
def one (s : Int × Int) : Wn := ⟨s.1, 1, s.2, s.2, s.2, s.2, s.2⟩
def ones (l : List (Int × Int)) : List Wn := l.map one
theorem ones_n (l : List (Int × Int)) : Pos (ones l) ∧ nsum (ones l) = l.length := by
  induction l with
  | nil => exact ⟨fun x hx => (by cases hx), rfl⟩
  | cons s l ih =>
    refine ⟨fun x hx => ?_, by simp only [ones, List.map_cons, nsum] at ih ⊢; rw [ih.2]; simp [one]; omega⟩
    rcases List.mem_cons.1 hx with rfl | hx
    · simp [one]
    · exact ih.1 x hx
theorem ones_ris {l : List (Int × Int)} (h : Ris l) : RisW (ones l) := List.pairwise_map.2 h
theorem ones_mm (l : List (Int × Int)) : ∀ x ∈ ones l, mmOk x := by
  intro x hx
  obtain ⟨s, _, rfl⟩ := List.mem_map.1 hx
  simp [mmOk, one]
theorem crowd_false {l : List Wn} (h : ∀ x ∈ l, x.n ≤ 1000000000) : crowd l = false := by
  unfold crowd
  rw [List.any_eq_false]
  intro x hx
  have := h x hx
  simp; omega
theorem crowd_ones (g : Int → Int) {l : List (Int × Int)} (h : l.length ≤ 1000) : crowd (grp g (ones l)) = false := by
  obtain ⟨h1, h2⟩ := ones_n l
  obtain ⟨h3, h4⟩ := grp_n g h1 (by rw [h2]; omega)
  exact crowd_false fun x hx => by have := nsum_mem h3 hx; omega
/-- What Roll answers of samples is right. -/
theorem roll_chk {w : Int} (hw : 1 ≤ w) {l : List (Int × Int)} (hl : l.length ≤ 1000) (hr : Ris l) : chkW (grp (beg w) (ones l)) = 0 := by
  obtain ⟨h1, h2⟩ := ones_n l
  obtain ⟨h3, h4⟩ := grp_n (beg w) h1 (by rw [h2]; omega)
  refine chkW_ok ?_ (fun x hx => ⟨⟨h3 x hx, ?_⟩, grp_mm _ (ones_mm l) x hx⟩) (grp_ris (beg_mono hw) (ones_ris hr).wk)
  · have := grp_length (beg w) (ones l); simp [ones] at this ⊢; omega
  · have := nsum_mem h3 hx; omega
/-- Windows of two lists. -/
def jn : List Wn → List Wn → List Wn
  | [], b => b
  | x :: a, [] => x :: a
  | x :: a, y :: b => if x.t < y.t then x :: jn a (y :: b) else if y.t < x.t then y :: jn (x :: a) b else bo x y :: jn a b
termination_by a b => a.length + b.length
theorem jn_nil (a : List Wn) : jn a [] = a := by cases a <;> simp [jn]
theorem jn_nil' (b : List Wn) : jn [] b = b := by simp [jn]
theorem jn_lt {x y : Wn} (a b : List Wn) (h : x.t < y.t) : jn (x :: a) (y :: b) = x :: jn a (y :: b) := by rw [jn, if_pos h]
theorem jn_gt {x y : Wn} (a b : List Wn) (h : y.t < x.t) : jn (x :: a) (y :: b) = y :: jn (x :: a) b := by rw [jn, if_neg (by omega), if_pos h]
theorem jn_eq {x y : Wn} (a b : List Wn) (h : x.t = y.t) : jn (x :: a) (y :: b) = bo x y :: jn a b := by rw [jn, if_neg (by omega), if_neg (by omega)]
theorem jn_ind {M : List Wn → List Wn → Prop} (h1 : ∀ b, M [] b) (h2 : ∀ a, M a []) (h3 : ∀ s a r b, s.t < r.t → M a (r :: b) → M (s :: a) (r :: b)) (h4 : ∀ s a r b, r.t < s.t → M (s :: a) b → M (s :: a) (r :: b)) (h5 : ∀ s a r b, s.t = r.t → M a b → M (s :: a) (r :: b)) : ∀ a b, M a b := by
  have go : ∀ n a b, List.length a + List.length b ≤ n → M a b := by
    intro n
    induction n with
    | zero => intro a b h; cases a with
      | nil => exact h1 b
      | cons s a => simp at h
    | succ n ih =>
      intro a b h
      match a, b with
      | [], b => exact h1 b
      | a, [] => exact h2 a
      | s :: a, r :: b =>
        simp at h
        rcases Int.lt_trichotomy s.t r.t with hlt | heq | hgt
        · exact h3 s a r b hlt (ih _ _ (by simp; omega))
        · exact h5 s a r b heq (ih _ _ (by omega))
        · exact h4 s a r b hgt (ih _ _ (by simp; omega))
  exact fun a b => go _ a b (Nat.le_refl _)
theorem jn_length : ∀ a b, (jn a b).length ≤ a.length + b.length := by
  refine jn_ind (fun b => by simp [jn_nil']) (fun a => by simp [jn_nil]) (fun s a r b h ih => ?_) (fun s a r b h ih => ?_) (fun s a r b h ih => ?_)
  · rw [jn_lt _ _ h]; simp at ih ⊢; omega
  · rw [jn_gt _ _ h]; simp at ih ⊢; omega
  · rw [jn_eq _ _ h]; simp at ih ⊢; omega
theorem jn_cat {a b : List Wn} (ha : RisW a) (hb : RisW b) (h : ∀ x ∈ a, ∀ y ∈ b, x.t ≤ y.t) : jn a b = cat a b := by
  induction a with
  | nil => rw [jn_nil']; rfl
  | cons x a ih =>
    cases b with
    | nil => rw [jn_nil, cat_nil]
    | cons y b =>
      cases a with
      | nil =>
        have := h x List.mem_cons_self y List.mem_cons_self
        simp only [cat]
        by_cases e : x.t = y.t
        · rw [if_pos e, jn_eq _ _ e, jn_nil']
        · rw [if_neg e, jn_lt _ _ (by omega), jn_nil']
      | cons x' a =>
        have h1 := ha.head x' List.mem_cons_self
        have h2 := h x' (List.mem_cons_of_mem _ List.mem_cons_self) y List.mem_cons_self
        rw [jn_lt _ _ (by omega), cat_cons (by simp), ih ha.tail fun z hz u hu => h z (List.mem_cons_of_mem _ hz) u hu]
/-- The error of two lists that are joined. -/
def jerr (a b : List Wn) : Int := if chkW a ≠ 0 then chkW a else if chkW b ≠ 0 then chkW b else if 1000 < (jn a b).length then 2 else if crowd (jn a b) = true then 2 else 0
end P
end Go.Proofs.Ytgfjhcjplhlonaa
