/- Several texts in one. -/
import Derived.Test.YtenfpkokogfdaaaRows
/- Plain: sketches: rows of cells, a key's cells, and what they tell. h is what cell of a row a key has. -/
namespace Go.Proofs.Ytenfpkokogfdaaa
namespace P
set_option linter.unusedVariables false
/-- A sketch. -/
structure Sk where
  d : Nat
  w : Nat
  c : List Int
  n : Int
def sumL : List Int → Int
  | [] => 0
  | x :: l => x + sumL l
theorem sumL_append (a b : List Int) : sumL (a ++ b) = sumL a + sumL b := by
  induction a with
  | nil => simp [sumL]
  | cons x a ih => simp only [List.cons_append, sumL, ih]; omega
theorem sumL_nonneg {l : List Int} (h : ∀ x ∈ l, 0 ≤ x) : 0 ≤ sumL l := by
  induction l with
  | nil => simp [sumL]
  | cons x l ih => have h1 := h x (by simp); have h2 := ih (fun y hy => h y (by simp [hy])); simp only [sumL]; omega
theorem mem_le_sumL {l : List Int} (h : ∀ x ∈ l, 0 ≤ x) {x : Int} (hx : x ∈ l) : x ≤ sumL l := by
  induction l with
  | nil => cases hx
  | cons y l ih =>
    have h1 := h y (by simp)
    have h2 : ∀ z ∈ l, 0 ≤ z := fun z hz => h z (by simp [hz])
    simp only [sumL]
    rcases List.mem_cons.1 hx with rfl | hx
    · have := sumL_nonneg h2; omega
    · have := ih h2 hx; omega
/-- Row number i. -/
def row (s : Sk) (i : Nat) : List Int := (s.c.drop (i * s.w)).take s.w
/-- A sketch that may stand. -/
structure SkGood (s : Sk) : Prop where
  d1 : 1 ≤ s.d
  d8 : s.d ≤ 8
  w1 : 1 ≤ s.w
  w200 : s.w ≤ 200
  len : s.c.length = s.d * s.w
  n0 : 0 ≤ s.n
  n1 : s.n ≤ 1152921504606846976
  cells : ∀ x ∈ s.c, 0 ≤ x
  sums : ∀ i, i < s.d → sumL (row s i) = s.n
/-- The cells with so much more in a key's cells. -/
def addC (h : Nat → Nat) (w : Nat) (c : List Int) (n : Int) : List Int := c.mapIdx fun p x => x + (if p % w = h (p / w) then n else 0)
theorem addC_len (h : Nat → Nat) (w : Nat) (c : List Int) (n : Int) : (addC h w c n).length = c.length := by simp [addC]
theorem addC_at (h : Nat → Nat) (w : Nat) (c : List Int) (n : Int) (p : Nat) (hp : p < c.length) : (addC h w c n).getD p 0 = c.getD p 0 + (if p % w = h (p / w) then n else 0) := by
  simp [addC, List.getD_eq_getElem?_getD, hp]
theorem sumL_ext {a b : List Int} (hl : a.length = b.length) (q : Nat → Int) (h : ∀ r, r < a.length → b.getD r 0 = a.getD r 0 + q r) : sumL b = sumL a + sumL ((List.range a.length).map q) := by
  induction a generalizing b q with
  | nil =>
    cases b with
    | nil => simp [sumL]
    | cons y b => simp at hl
  | cons x a ih =>
    cases b with
    | nil => simp at hl
    | cons y b =>
      have h0 := h 0 (by simp)
      have h1 := ih (b := b) (by simpa using hl) (fun r => q (r + 1)) (fun r hr => by have := h (r + 1) (by simp; omega); simpa using this)
      simp at h0
      simp only [sumL, List.length_cons, List.range_succ_eq_map, List.map_cons, List.map_map, h1, h0]
      have e : (List.map (q ∘ Nat.succ) (List.range a.length)) = (List.map (fun r => q (r + 1)) (List.range a.length)) := rfl
      rw [e]; omega
theorem sum_one (w k : Nat) (n : Int) (hk : k < w) : sumL ((List.range w).map fun r => if r = k then n else 0) = n := by
  induction w with
  | zero => omega
  | succ w ih =>
    rw [List.range_succ, List.map_append, sumL_append]
    by_cases h : k < w
    · rw [ih h]
      have : ¬ w = k := by omega
      simp [sumL, this]
    · obtain rfl : k = w := by omega
      have hz : sumL ((List.range k).map fun r => if r = k then n else 0) = 0 := by
        have : ∀ m, m ≤ k → sumL ((List.range m).map fun r => if r = k then n else 0) = 0 := by
          intro m
          induction m with
          | zero => intro _; simp [sumL]
          | succ m ihm =>
            intro hm
            rw [List.range_succ, List.map_append, sumL_append, ihm (by omega)]
            have : ¬ m = k := by omega
            simp [sumL, this]
        exact this k (Nat.le_refl _)
      rw [hz]; simp [sumL]
theorem row_len {s : Sk} (hl : s.c.length = s.d * s.w) {i : Nat} (hi : i < s.d) : (row s i).length = s.w := by
  unfold row
  have : (i + 1) * s.w ≤ s.d * s.w := Nat.mul_le_mul_right _ hi
  rw [Nat.succ_mul] at this
  simp; omega
theorem row_at {s : Sk} {i r : Nat} (hr : r < s.w) : (row s i).getD r 0 = s.c.getD (i * s.w + r) 0 := by
  unfold row
  simp [List.getD_eq_getElem?_getD, hr, List.getElem?_drop]
theorem place_div {i r w : Nat} (hr : r < w) : (i * w + r) / w = i := by
  rw [Nat.mul_comm, Nat.mul_add_div (by omega), Nat.div_eq_of_lt hr]; rfl
theorem place_mod {i r w : Nat} (hr : r < w) : (i * w + r) % w = r := by
  rw [Nat.mul_comm, Nat.mul_add_mod, Nat.mod_eq_of_lt hr]
/-- A key so many times more. -/
def skAdd (h : Nat → Nat) (s : Sk) (n : Int) : Sk := ⟨s.d, s.w, addC h s.w s.c n, s.n + n⟩
theorem skAdd_good {s : Sk} (hg : SkGood s) {h : Nat → Nat} (hh : ∀ i, i < s.d → h i < s.w) {n : Int} (h0 : 0 ≤ n) (h1 : s.n + n ≤ 1152921504606846976) : SkGood (skAdd h s n) := by
  have hn0 := hg.n0
  refine ⟨hg.d1, hg.d8, hg.w1, hg.w200, (addC_len _ _ _ _).trans hg.len, by show 0 ≤ s.n + n; omega, h1, ?_, fun i hi => ?_⟩
  · show ∀ x ∈ addC h s.w s.c n, 0 ≤ x
    intro x hx
    obtain ⟨p, hp, rfl⟩ := List.getElem_of_mem hx
    have hp2 : p < s.c.length := by rw [addC_len] at hp; exact hp
    have e := addC_at h s.w s.c n p hp2
    have e2 : (addC h s.w s.c n).getD p 0 = (addC h s.w s.c n)[p] := by simp [List.getD_eq_getElem?_getD, hp]
    have e3 : s.c.getD p 0 = s.c[p] := by simp [List.getD_eq_getElem?_getD, hp2]
    have := hg.cells _ (List.getElem_mem hp2)
    rw [← e2, e, e3]; split <;> omega
  · have hi' : i < s.d := hi
    have hl1 := row_len hg.len hi'
    have hl2 : (row (skAdd h s n) i).length = s.w := row_len (s := skAdd h s n) ((addC_len _ _ _ _).trans hg.len) hi
    have hb : (i + 1) * s.w ≤ s.d * s.w := Nat.mul_le_mul_right _ hi'
    rw [Nat.succ_mul] at hb
    have := sumL_ext (a := row s i) (b := row (skAdd h s n) i) (by rw [hl1, hl2]) (fun r => if r = h i then n else 0) fun r hr => by
      rw [hl1] at hr
      rw [row_at (s := skAdd h s n) hr, row_at hr]
      show (addC h s.w s.c n).getD (i * s.w + r) 0 = _
      rw [addC_at _ _ _ _ _ (by rw [hg.len]; omega), place_div hr, place_mod hr]
    rw [this, hl1, sum_one _ _ _ (hh i hi'), hg.sums i hi']; rfl
/-- The least of a key's cells. -/
def least (h : Nat → Nat) (s : Sk) : Nat → Int
  | 0 => s.n
  | i + 1 => min (least h s i) (s.c.getD (i * s.w + h i) 0)
theorem cell_le {s : Sk} (hg : SkGood s) {i r : Nat} (hi : i < s.d) (hr : r < s.w) : 0 ≤ s.c.getD (i * s.w + r) 0 ∧ s.c.getD (i * s.w + r) 0 ≤ s.n := by
  have hb : (i + 1) * s.w ≤ s.d * s.w := Nat.mul_le_mul_right _ hi
  rw [Nat.succ_mul] at hb
  have hp : i * s.w + r < s.c.length := by rw [hg.len]; omega
  have hl := row_len hg.len hi
  have e : (row s i).getD r 0 = (row s i)[r]'(by omega) := by simp [List.getD_eq_getElem?_getD, show r < (row s i).length by omega]
  have hc : ∀ x ∈ row s i, 0 ≤ x := fun x hx => hg.cells x (List.mem_of_mem_drop (List.mem_of_mem_take hx))
  have h1 := hc _ (List.getElem_mem (show r < (row s i).length by omega))
  have h2 := mem_le_sumL hc (List.getElem_mem (show r < (row s i).length by omega))
  rw [hg.sums i hi] at h2
  rw [← row_at hr, e]
  exact ⟨h1, h2⟩
theorem least_bound {s : Sk} (hg : SkGood s) {h : Nat → Nat} (hh : ∀ i, i < s.d → h i < s.w) : ∀ k, k ≤ s.d → 0 ≤ least h s k ∧ least h s k ≤ s.n := by
  intro k
  induction k with
  | zero => intro _; exact ⟨hg.n0, Int.le_refl _⟩
  | succ k ih =>
    intro hk
    have h1 := ih (by omega)
    have h2 := cell_le hg (show k < s.d by omega) (hh k (by omega))
    simp only [least]
    omega
/-- How many of keys have a place. -/
def atP (h : Nat → ByteArray → Nat) (w : Nat) (l : List ByteArray) (p : Nat) : Int := ((l.countP fun x => decide (p % w = h (p / w) x) : Nat) : Int)
theorem atP_append (h : Nat → ByteArray → Nat) (w : Nat) (a b : List ByteArray) (p : Nat) : atP h w (a ++ b) p = atP h w a p + atP h w b p := by unfold atP; rw [List.countP_append]; simp
/-- A sketch tells of keys that came. -/
structure SkRep (h : Nat → ByteArray → Nat) (s : Sk) (l : List ByteArray) : Prop where
  good : SkGood s
  n : s.n = l.length
  at_ : ∀ p, p < s.c.length → s.c.getD p 0 = atP h s.w l p
theorem SkRep.ad {h : Nat → ByteArray → Nat} {s : Sk} {l : List ByteArray} (hr : SkRep h s l) (hh : ∀ i x, i < s.d → h i x < s.w) (x : ByteArray) (h1 : s.n + 1 ≤ 1152921504606846976) : SkRep h (skAdd (fun i => h i x) s 1) (l ++ [x]) := by
  refine ⟨skAdd_good hr.good (fun i hi => hh i x hi) (by decide) h1, ?_, fun p hp => ?_⟩
  · show s.n + 1 = _; rw [hr.n]; simp
  · have hp2 : p < s.c.length := by have : p < (addC (fun i => h i x) s.w s.c 1).length := hp; rwa [addC_len] at this
    show (addC (fun i => h i x) s.w s.c 1).getD p 0 = atP h s.w (l ++ [x]) p
    rw [addC_at _ _ _ _ _ hp2, atP_append, hr.at_ p hp2]
    congr 1
    unfold atP
    by_cases hq : p % s.w = h (p / s.w) x <;> simp [hq]
/-- Cells are told by their places. -/
theorem cells_ext {a b : List Int} (hl : a.length = b.length) (h : ∀ p, p < a.length → a.getD p 0 = b.getD p 0) : a = b := by
  apply List.ext_getElem hl
  intro p h1 h2
  have := h p h1
  simpa [List.getD_eq_getElem?_getD, h1, h2] using this
/-- All cells of both. -/
def bothC (a b : List Int) : List Int := a.mapIdx fun p x => x + b.getD p 0
theorem bothC_len (a b : List Int) : (bothC a b).length = a.length := by simp [bothC]
theorem bothC_at (a b : List Int) (p : Nat) (hp : p < a.length) : (bothC a b).getD p 0 = a.getD p 0 + b.getD p 0 := by simp [bothC, List.getD_eq_getElem?_getD, hp]
def skBoth (a b : Sk) : Sk := ⟨a.d, a.w, bothC a.c b.c, a.n + b.n⟩
theorem skBoth_rep {h : Nat → ByteArray → Nat} {a b : Sk} {l m : List ByteArray} (ha : SkRep h a l) (hb : SkRep h b m) (hd : a.d = b.d) (hw : a.w = b.w) {c : Sk} (hc : SkRep h c (m ++ l)) (hcd : c.d = a.d) (hcw : c.w = a.w) : skBoth a b = c ∧ skBoth b a = c := by
  have hlen : a.c.length = b.c.length := by rw [ha.good.len, hb.good.len, hd, hw]
  have hlc : c.c.length = a.c.length := by rw [hc.good.len, ha.good.len, hcd, hcw]
  obtain ⟨cd, cw, cc, cn⟩ := c
  simp only at hcd hcw hlc
  subst hcd hcw
  have hn := hc.n
  simp only [List.length_append] at hn
  have e1 : bothC a.c b.c = cc := cells_ext (by rw [bothC_len, hlc]) fun p hp => by
    rw [bothC_len] at hp
    rw [bothC_at _ _ _ hp, ha.at_ p hp, hb.at_ p (by omega), hc.at_ p (by show p < cc.length; omega), atP_append, ← hw]
    show atP h a.w l p + atP h a.w m p = atP h a.w m p + atP h a.w l p
    omega
  have e2 : bothC b.c a.c = cc := cells_ext (by rw [bothC_len, hlc, hlen]) fun p hp => by
    rw [bothC_len] at hp
    rw [bothC_at _ _ _ hp, hb.at_ p hp, ha.at_ p (by omega), hc.at_ p (by show p < cc.length; omega), atP_append, ← hw]
  refine ⟨?_, ?_⟩
  · unfold skBoth; rw [e1, ha.n, hb.n]; congr 1; rw [hn]; simp; omega
  · unfold skBoth; rw [e2, ha.n, hb.n, ← hd, ← hw]; congr 1; rw [hn]; simp
theorem skAdd_add {s : Sk} (h : Nat → Nat) (a b : Int) : skAdd h (skAdd h s a) b = skAdd h s (a + b) := by
  unfold skAdd
  have e : addC h s.w (addC h s.w s.c a) b = addC h s.w s.c (a + b) := cells_ext (by simp [addC_len]) fun p hp => by
    have hp2 : p < s.c.length := by simpa [addC_len] using hp
    rw [addC_at _ _ _ _ _ (by rw [addC_len]; exact hp2), addC_at _ _ _ _ _ hp2, addC_at _ _ _ _ _ hp2]
    split <;> omega
  rw [e]
  simp only [Sk.mk.injEq, true_and]
  omega
theorem skAdd_zero {s : Sk} (h : Nat → Nat) : skAdd h s 0 = s := by
  unfold skAdd
  have e : addC h s.w s.c 0 = s.c := cells_ext (by simp [addC_len]) fun p hp => by
    have hp2 : p < s.c.length := by simpa [addC_len] using hp
    rw [addC_at _ _ _ _ _ hp2]; simp
  rw [e, Int.add_zero]
theorem skAdd_cell {s : Sk} (hg : SkGood s) {h : Nat → Nat} {i r : Nat} (hi : i < s.d) (hr : r < s.w) (n : Int) : (skAdd h s n).c.getD (i * s.w + r) 0 = s.c.getD (i * s.w + r) 0 + (if r = h i then n else 0) := by
  have hb : (i + 1) * s.w ≤ s.d * s.w := Nat.mul_le_mul_right _ hi
  rw [Nat.succ_mul] at hb
  show (addC h s.w s.c n).getD (i * s.w + r) 0 = _
  rw [addC_at _ _ _ _ _ (by rw [hg.len]; omega), place_div hr, place_mod hr]
/-- Who comes so many times more is told so many more. -/
theorem least_same {s : Sk} (hg : SkGood s) {h : Nat → Nat} (hh : ∀ i, i < s.d → h i < s.w) (n : Int) : ∀ k, k ≤ s.d → least h (skAdd h s n) k = least h s k + n := by
  intro k
  induction k with
  | zero => intro _; rfl
  | succ k ih =>
    intro hk
    have h1 := ih (by omega)
    have h2 := skAdd_cell hg (h := h) (show k < s.d by omega) (hh k (by omega)) n
    rw [if_pos rfl] at h2
    have hw : (skAdd h s n).w = s.w := rfl
    simp only [least, hw, h1, h2]
    omega
/-- Another one is told no less, and not more than that more. -/
theorem least_other {s : Sk} (hg : SkGood s) {h g : Nat → Nat} (hh : ∀ i, i < s.d → g i < s.w) {n : Int} (hn : 0 ≤ n) : ∀ k, k ≤ s.d → least g s k ≤ least g (skAdd h s n) k ∧ least g (skAdd h s n) k ≤ least g s k + n := by
  intro k
  induction k with
  | zero => intro _; show s.n ≤ s.n + n ∧ s.n + n ≤ s.n + n; omega
  | succ k ih =>
    intro hk
    have h1 := ih (by omega)
    have h2 := skAdd_cell hg (h := h) (show k < s.d by omega) (hh k (by omega)) n
    have hw : (skAdd h s n).w = s.w := rfl
    simp only [least, hw, h2]
    split <;> omega
/-- A key came not more often than is told. -/
theorem SkRep.over {h : Nat → ByteArray → Nat} {s : Sk} {l : List ByteArray} (hr : SkRep h s l) (hh : ∀ i x, i < s.d → h i x < s.w) (x : ByteArray) : ∀ k, k ≤ s.d → ((l.countP fun y => decide (y = x) : Nat) : Int) ≤ least (fun i => h i x) s k := by
  intro k
  induction k with
  | zero =>
    intro _
    have : (l.countP fun y => decide (y = x)) ≤ l.length := List.countP_le_length
    show _ ≤ s.n
    rw [hr.n]; omega
  | succ k ih =>
    intro hk
    have h1 := ih (by omega)
    have hx := hh k x (by omega)
    have hb : (k + 1) * s.w ≤ s.d * s.w := Nat.mul_le_mul_right _ hk
    rw [Nat.succ_mul] at hb
    have h2 := hr.at_ (k * s.w + h k x) (by rw [hr.good.len]; omega)
    have h3 : (l.countP fun y => decide (y = x)) ≤ l.countP fun y => decide ((k * s.w + h k x) % s.w = h ((k * s.w + h k x) / s.w) y) := List.countP_mono_left fun y _ hy => by
      have e : y = x := by simpa using hy
      subst e
      rw [place_div hx, place_mod hx]; simp
    unfold atP at h2
    simp only [least]
    omega
def skEmp (d w : Nat) : Sk := ⟨d, w, List.replicate (d * w) 0, 0⟩
theorem sum_zeros (l : List Int) (h : ∀ x ∈ l, x = 0) : sumL l = 0 := by
  induction l with
  | nil => rfl
  | cons x l ih => simp only [sumL]; rw [h x (by simp), ih fun y hy => h y (by simp [hy])]; rfl
theorem skEmp_good {d w : Nat} (h1 : 1 ≤ d) (h2 : d ≤ 8) (h3 : 1 ≤ w) (h4 : w ≤ 200) : SkGood (skEmp d w) := by
  have hz : ∀ x ∈ (skEmp d w).c, x = 0 := fun x hx => by simp [skEmp] at hx; exact hx.2
  refine ⟨h1, h2, h3, h4, by simp [skEmp], by simp [skEmp], by simp [skEmp], fun x hx => by rw [hz x hx]; exact Int.le_refl _, fun i hi => ?_⟩
  exact sum_zeros _ fun x hx => hz x (List.mem_of_mem_drop (List.mem_of_mem_take hx))
theorem skEmp_rep (h : Nat → ByteArray → Nat) {d w : Nat} (h1 : 1 ≤ d) (h2 : d ≤ 8) (h3 : 1 ≤ w) (h4 : w ≤ 200) : SkRep h (skEmp d w) [] :=
  ⟨skEmp_good h1 h2 h3 h4, rfl, fun p hp => by
    have hp2 : p < d * w := by simpa [skEmp] using hp
    simp [skEmp, atP, List.getD_eq_getElem?_getD, hp2]⟩
end P
end Go.Proofs.Ytenfpkokogfdaaa
