/- Plain: ranks: lists in order, levels, how lists are carried upward, how two ranks are merged, and the laws of it. -/
import Derived.Test.YtlndbmenaaiogaaKitK
namespace Go.Proofs.Ytlndbmenaaiogaa
namespace P
set_option linter.unusedVariables false
set_option linter.unusedSimpArgs false
/-- In order, none falling. -/
def Inc (l : List Int) : Prop := l.Pairwise (· ≤ ·)
theorem inc_nil : Inc [] := List.Pairwise.nil
theorem Inc.tail {x : Int} {l : List Int} (h : Inc (x :: l)) : Inc l := (List.pairwise_cons.1 h).2
theorem Inc.head {x : Int} {l : List Int} (h : Inc (x :: l)) : ∀ y ∈ l, x ≤ y := (List.pairwise_cons.1 h).1
/-- Two lists in order of the same numbers are one. -/
theorem inc_ext {a b : List Int} (ha : Inc a) (hb : Inc b) (h : a.Perm b) : a = b := by
  induction a generalizing b with
  | nil => exact (List.Perm.nil_eq h)
  | cons x a ih =>
    cases b with
    | nil => exact absurd h.symm.nil_eq (by simp)
    | cons y b =>
      have hx : x ∈ y :: b := h.subset (by simp)
      have hy : y ∈ x :: a := h.symm.subset (by simp)
      have e : x = y := by
        rcases List.mem_cons.1 hx with h1 | h1
        · exact h1
        · rcases List.mem_cons.1 hy with h2 | h2
          · exact h2.symm
          · have := hb.head x h1; have := ha.head y h2; omega
      subst e
      rw [ih ha.tail hb.tail (List.Perm.cons_inv h)]
/-- Put in order. -/
def srt (l : List Int) : List Int := l.mergeSort fun x y => decide (x ≤ y)
theorem srt_inc (l : List Int) : Inc (srt l) := by
  have := List.pairwise_mergeSort (le := fun x y : Int => decide (x ≤ y)) (fun a b c h1 h2 => by simp only [decide_eq_true_eq] at *; omega) (fun a b => by simp only [Bool.or_eq_true, decide_eq_true_eq]; omega) l
  exact this.imp (fun h => by simpa using h)
theorem srt_perm (l : List Int) : (srt l).Perm l := List.mergeSort_perm _ _
theorem srt_len (l : List Int) : (srt l).length = l.length := (srt_perm l).length_eq
theorem mem_srt {l : List Int} {x : Int} : x ∈ srt l ↔ x ∈ l := (srt_perm l).mem_iff
theorem srt_of {a b : List Int} (ha : Inc a) (h : a.Perm b) : srt b = a := inc_ext (srt_inc b) ha ((srt_perm b).trans h.symm)
/-- How many are not above x. -/
def na (x : Int) (l : List Int) : Nat := l.countP fun v => decide (v ≤ x)
theorem na_nil (x : Int) : na x [] = 0 := rfl
theorem na_cons (x v : Int) (l : List Int) : na x (v :: l) = na x l + if v ≤ x then 1 else 0 := by
  unfold na; rw [List.countP_cons]; simp
theorem na_app (x : Int) (a b : List Int) : na x (a ++ b) = na x a + na x b := by unfold na; rw [List.countP_append]
theorem na_perm {x : Int} {a b : List Int} (h : a.Perm b) : na x a = na x b := by unfold na; exact h.countP_eq _
theorem na_le (x : Int) (l : List Int) : na x l ≤ l.length := by unfold na; exact List.countP_le_length
theorem na_mono {x y : Int} (h : x ≤ y) (l : List Int) : na x l ≤ na y l := by
  unfold na; exact List.countP_mono_left fun v _ hv => by simp only [decide_eq_true_eq] at *; omega
theorem na_all {x : Int} {l : List Int} (h : ∀ v ∈ l, v ≤ x) : na x l = l.length := by
  unfold na; rw [List.countP_eq_length]; intro v hv; simpa using h v hv
theorem na_none {x : Int} {l : List Int} (h : ∀ v ∈ l, x < v) : na x l = 0 := by
  unfold na; rw [List.countP_eq_zero]; intro v hv; have := h v hv; simp only [decide_eq_true_eq]; omega
/-- Those at each second place. -/
def odds : List Int → List Int
  | _ :: b :: r => b :: odds r
  | _ => []
theorem odds_len : ∀ (l : List Int), (odds l).length = l.length / 2
  | [] => by simp [odds]
  | [_] => by simp [odds]
  | _ :: b :: r => by simp only [odds, List.length_cons, odds_len r]; omega
theorem odds_sub : ∀ (l : List Int) (x : Int), x ∈ odds l → x ∈ l
  | [], x, h => by simp [odds] at h
  | [_], x, h => by simp [odds] at h
  | a :: b :: r, x, h => by
    simp only [odds, List.mem_cons] at h
    rcases h with h | h
    · subst h; simp
    · have := odds_sub r x h; simp [this]
theorem odds_inc : ∀ (l : List Int), Inc l → Inc (odds l)
  | [], _ => inc_nil
  | [_], _ => inc_nil
  | a :: b :: r, h => by
    simp only [odds]
    refine List.pairwise_cons.2 ⟨fun y hy => h.tail.head y (odds_sub r y hy), odds_inc r h.tail.tail⟩
theorem odds_na (x : Int) : ∀ (l : List Int), Inc l → na x (odds l) = na x l / 2
  | [], _ => by simp [odds, na_nil]
  | [a], _ => by simp only [odds, na_cons, na_nil]; split <;> rfl
  | a :: b :: r, h => by
    have ih := odds_na x r h.tail.tail
    simp only [odds, na_cons, ih]
    have hab := h.head b (by simp)
    by_cases hb : b ≤ x
    · rw [if_pos hb, if_pos (by omega)]; omega
    · have hr : na x r = 0 := na_none fun v hv => by have := h.tail.head v hv; omega
      rw [if_neg hb, hr]
      split <;> rfl
theorem odds_get : ∀ (l : List Int) (j : Nat), (odds l)[j]? = l[2 * j + 1]?
  | [], j => by simp [odds]
  | [_], j => by simp [odds]
  | a :: b :: r, j => by
    cases j with
    | zero => simp [odds]
    | succ j => simp only [odds]; rw [List.getElem?_cons_succ, odds_get r j, show 2 * (j + 1) + 1 = (2 * j + 1) + 1 + 1 by omega]; simp
theorem odds_two (l : List Int) (x : Int) (j : Nat) (h : l.length = 2 * j + 1) : odds (l ++ [x]) = odds l ++ [x] := by
  apply List.ext_getElem?
  intro i
  rw [odds_get, List.getElem?_append, List.getElem?_append, odds_len, odds_get, h]
  by_cases hi : i < j
  · rw [if_pos (by omega), if_pos (by omega)]
  · rcases Nat.lt_or_ge j i with h1 | h1
    · rw [if_neg (by omega), if_neg (by omega), List.getElem?_eq_none (by simp; omega), List.getElem?_eq_none (by simp; omega)]
    · obtain rfl : i = j := by omega
      rw [if_neg (by omega), if_neg (by omega)]
      simp [show 2 * i + 1 - (2 * i + 1) = 0 by omega, show i - (2 * i + 1) / 2 = 0 by omega]
theorem odds_one (l : List Int) (x : Int) (j : Nat) (h : l.length = 2 * j) : odds (l ++ [x]) = odds l := by
  apply List.ext_getElem?
  intro i
  rw [odds_get, odds_get, List.getElem?_append]
  split
  · rfl
  · rw [List.getElem?_eq_none (by simp; omega), List.getElem?_eq_none (by omega)]
/-- Of two lists together those at each second place. -/
def halve (a b : List Int) : List Int := odds (srt (a ++ b))
theorem halve_len {a b : List Int} {n : Nat} (ha : a.length = n) (hb : b.length = n) : (halve a b).length = n := by
  unfold halve; rw [odds_len, srt_len, List.length_append]; omega
theorem halve_inc (a b : List Int) : Inc (halve a b) := odds_inc _ (srt_inc _)
theorem halve_na (x : Int) (a b : List Int) : na x (halve a b) = (na x a + na x b) / 2 := by
  unfold halve; rw [odds_na x _ (srt_inc _), na_perm (srt_perm _), na_app]
theorem halve_sub {a b : List Int} {x : Int} (h : x ∈ halve a b) : x ∈ a ∨ x ∈ b := by
  have := mem_srt.1 (odds_sub _ _ h); simpa using this
/-- How many numbers levels tell of; how many of these are not above x; how often they were halved. -/
def cnt : List (List Int) → Nat
  | [] => 0
  | l :: r => l.length + 2 * cnt r
def wt (x : Int) : List (List Int) → Nat
  | [] => 0
  | l :: r => na x l + 2 * wt x r
def pot : List (List Int) → Nat
  | [] => 0
  | _ :: r => 2 * (pot r + cnt r)
theorem wt_le (x : Int) (lv : List (List Int)) : wt x lv ≤ cnt lv := by
  induction lv with
  | nil => simp [wt]
  | cons l r ih => have := na_le x l; simp only [wt, cnt]; omega
theorem wt_mono {x y : Int} (h : x ≤ y) (lv : List (List Int)) : wt x lv ≤ wt y lv := by
  induction lv with
  | nil => simp [wt]
  | cons l r ih => have := na_mono h l; simp only [wt]; omega
theorem wt_all {x : Int} {lv : List (List Int)} (h : ∀ l ∈ lv, ∀ v ∈ l, v ≤ x) : wt x lv = cnt lv := by
  induction lv with
  | nil => rfl
  | cons l r ih => simp only [wt, cnt, na_all (h l (by simp)), ih fun m hm => h m (by simp [hm])]
theorem wt_none {x : Int} {lv : List (List Int)} (h : ∀ l ∈ lv, ∀ v ∈ l, x < v) : wt x lv = 0 := by
  induction lv with
  | nil => rfl
  | cons l r ih => simp only [wt, na_none (h l (by simp)), ih fun m hm => h m (by simp [hm])]
theorem pot_le (lv : List (List Int)) : pot lv ≤ (lv.length - 1) * cnt lv := by
  induction lv with
  | nil => simp [pot]
  | cons l r ih =>
    simp only [pot, cnt, List.length_cons, Nat.add_sub_cancel]
    cases r with
    | nil => simp [pot, cnt]
    | cons m r =>
      simp only [List.length_cons, Nat.add_sub_cancel] at ih
      rw [List.length_cons]
      generalize cnt (m :: r) = c at *
      generalize pot (m :: r) = p at *
      have e : (r.length + 1) * (l.length + 2 * c) = (r.length + 1) * l.length + 2 * (r.length * c + c) := by
        rw [Nat.mul_add, Nat.add_mul r.length 1 (2 * c), Nat.mul_add, Nat.mul_left_comm r.length 2 c]; omega
      rw [e]; omega
/-- Levels up to one. -/
theorem cnt_app (a b : List (List Int)) : cnt (a ++ b) = cnt a + 2 ^ a.length * cnt b := by
  induction a with
  | nil => simp [cnt]
  | cons l r ih => simp only [List.cons_append, cnt, ih, List.length_cons, Nat.pow_succ, Nat.mul_add]; rw [show 2 ^ r.length * 2 * cnt b = 2 * (2 ^ r.length * cnt b) by rw [Nat.mul_right_comm, Nat.mul_comm]]; omega
theorem wt_app (x : Int) (a b : List (List Int)) : wt x (a ++ b) = wt x a + 2 ^ a.length * wt x b := by
  induction a with
  | nil => simp [wt]
  | cons l r ih => simp only [List.cons_append, wt, ih, List.length_cons, Nat.pow_succ, Nat.mul_add]; rw [show 2 ^ r.length * 2 * wt x b = 2 * (2 ^ r.length * wt x b) by rw [Nat.mul_right_comm, Nat.mul_comm]]; omega
theorem cnt_take {lv : List (List Int)} {j : Nat} {l : List Int} (h : lv[j]? = some l) : cnt (lv.take (j + 1)) = cnt (lv.take j) + 2 ^ j * l.length := by
  have hj : j < lv.length := by
    rcases Nat.lt_or_ge j lv.length with h' | h'
    · exact h'
    · rw [List.getElem?_eq_none h'] at h; cases h
  rw [List.take_add_one, h, Option.toList_some, cnt_app, List.length_take, Nat.min_eq_left (by omega)]; simp [cnt]
theorem wt_take {lv : List (List Int)} {j : Nat} {l : List Int} (h : lv[j]? = some l) (x : Int) : wt x (lv.take (j + 1)) = wt x (lv.take j) + 2 ^ j * na x l := by
  have hj : j < lv.length := by
    rcases Nat.lt_or_ge j lv.length with h' | h'
    · exact h'
    · rw [List.getElem?_eq_none h'] at h; cases h
  rw [List.take_add_one, h, Option.toList_some, wt_app, List.length_take, Nat.min_eq_left (by omega)]; simp [wt]
theorem cnt_take_le (lv : List (List Int)) (j : Nat) : cnt (lv.take j) ≤ cnt lv := by
  have := cnt_app (lv.take j) (lv.drop j)
  rw [List.take_append_drop] at this
  omega
/-- A list carried upward, from the first level on; what Slack grows by. -/
def up : List (List Int) → List Int → List (List Int) × Nat
  | [], l => ([l], 0)
  | [] :: r, l => (l :: r, 0)
  | (y :: m) :: r, l => ([] :: (up r (halve (y :: m) l)).1, 1 + 2 * (up r (halve (y :: m) l)).2)
/-- .. to level j. -/
def car (lv : List (List Int)) (l : List Int) : Nat → List (List Int) × Nat
  | 0 => up lv l
  | j + 1 => match lv with
    | [] => ([] :: (car [] l j).1, 2 * (car [] l j).2)
    | m :: r => (m :: (car r l j).1, 2 * (car r l j).2)
/-- Levels that are each empty or of k numbers. -/
def Lv (k : Nat) (lv : List (List Int)) : Prop := ∀ l ∈ lv, Inc l ∧ (l.length = 0 ∨ l.length = k)
theorem Lv.head {k : Nat} {l : List Int} {r : List (List Int)} (h : Lv k (l :: r)) : Inc l ∧ (l.length = 0 ∨ l.length = k) := h l (by simp)
theorem Lv.tail {k : Nat} {l : List Int} {r : List (List Int)} (h : Lv k (l :: r)) : Lv k r := fun m hm => h m (by simp [hm])
theorem Lv.cons {k : Nat} {l : List Int} {r : List (List Int)} (h1 : Inc l ∧ (l.length = 0 ∨ l.length = k)) (h : Lv k r) : Lv k (l :: r) := by
  intro m hm
  rcases List.mem_cons.1 hm with rfl | hm
  · exact h1
  · exact h m hm
theorem Lv.nil (k : Nat) : Lv k [] := fun m hm => by simp at hm
/-- The last one is not empty. -/
def Tip : List (List Int) → Prop
  | [] => True
  | [l] => l ≠ []
  | _ :: m :: r => Tip (m :: r)
theorem Tip.tail {l : List Int} {r : List (List Int)} (h : Tip (l :: r)) : Tip r := by
  cases r with
  | nil => trivial
  | cons m r => exact h
theorem Tip.cons {l : List Int} {r : List (List Int)} (h : Tip r) (hr : r ≠ []) : Tip (l :: r) := by
  cases r with
  | nil => exact absurd rfl hr
  | cons m r => exact h
theorem tip_iff (lv : List (List Int)) : Tip lv ↔ lv = [] ∨ lv.getD (lv.length - 1) [] ≠ [] := by
  induction lv with
  | nil => simp [Tip]
  | cons l r ih =>
    cases r with
    | nil => simp [Tip]
    | cons m r => simp only [Tip, ih]; simp
theorem tip_pow {k : Nat} {lv : List (List Int)} (h : Lv k lv) (ht : Tip lv) : lv = [] ∨ 2 ^ (lv.length - 1) * k ≤ cnt lv := by
  induction lv with
  | nil => exact .inl rfl
  | cons l r ih =>
    right
    cases r with
    | nil =>
      have h1 := h.head.2
      simp [Tip] at ht
      have : l.length ≠ 0 := fun e => ht (List.length_eq_zero_iff.1 e)
      simp [cnt]; omega
    | cons m r =>
      rcases ih h.tail ht.tail with h1 | h1
      · cases h1
      · simp only [List.length_cons, Nat.add_sub_cancel] at h1 ⊢
        rw [cnt, Nat.pow_succ, Nat.mul_right_comm]; omega
theorem cnt_lt {k : Nat} {lv : List (List Int)} (h : Lv k lv) : cnt lv + k ≤ 2 ^ lv.length * k := by
  induction lv with
  | nil => simp [cnt]
  | cons l r ih =>
    have h0 := ih h.tail
    have h1 := h.head.2
    rw [cnt, List.length_cons, Nat.pow_succ, Nat.mul_right_comm]
    generalize 2 ^ r.length * k = a at *
    omega
theorem up_ne (lv : List (List Int)) (l : List Int) : (up lv l).1 ≠ [] := by
  cases lv with
  | nil => simp [up]
  | cons m r => cases m <;> simp [up]
theorem car_ne (lv : List (List Int)) (l : List Int) (j : Nat) : (car lv l j).1 ≠ [] := by
  cases j with
  | zero => exact up_ne lv l
  | succ j => cases lv <;> simp [car]
/-- What carrying keeps. -/
structure Cars (k : Nat) (L : List (List Int)) (l : List Int) (j : Nat) (q : List (List Int) × Nat) : Prop where
  lv : Lv k q.1
  tip : Tip q.1
  cnt : P.cnt q.1 = P.cnt L + 2 ^ j * k
  pot : P.pot q.1 = P.pot L + j * 2 ^ j * k + 2 * k * q.2
  wt : ∀ x, P.wt x q.1 ≤ P.wt x L + 2 ^ j * na x l ∧ P.wt x L + 2 ^ j * na x l ≤ P.wt x q.1 + q.2
  sub : ∀ m ∈ q.1, ∀ v ∈ m, v ∈ l ∨ ∃ m' ∈ L, v ∈ m'
  len : L.length ≤ q.1.length ∧ j + 1 ≤ q.1.length
theorem up_both {k : Nat} (hk : 0 < k) (lv : List (List Int)) (l : List Int) (h : Lv k lv) (ht : Tip lv) (hl : Inc l) (hn : l.length = k) : Cars k lv l 0 (up lv l) := by
  induction lv generalizing l with
  | nil =>
    refine ⟨Lv.cons ⟨hl, .inr hn⟩ (Lv.nil k), ?_, ?_, ?_, fun x => ?_, fun m hm v hv => ?_, by simp [up]⟩
    · simp only [up, Tip]; rintro rfl; simp at hn; omega
    · simp [up, P.cnt, hn]
    · simp [up, P.pot, P.cnt]
    · simp [up, P.wt]
    · simp [up] at hm; subst hm; exact .inl hv
  | cons m r ih =>
    cases m with
    | nil =>
      refine ⟨Lv.cons ⟨hl, .inr hn⟩ h.tail, ?_, ?_, ?_, fun x => ?_, fun m hm v hv => ?_, by simp [up]⟩
      · simp only [up]
        cases r with
        | nil => simp [Tip] at ht
        | cons m r => exact ht
      · simp [up, P.cnt, hn]; omega
      · simp [up, P.pot, P.cnt]
      · simp [up, P.wt, na_nil]; omega
      · simp only [up, List.mem_cons] at hm
        rcases hm with rfl | hm
        · exact .inl hv
        · exact .inr ⟨m, by simp [hm], hv⟩
    | cons y m =>
      have hm := h.head
      have hmk : (y :: m).length = k := by rcases hm.2 with h1 | h1 <;> simp at h1 ⊢; omega
      have c := ih (halve (y :: m) l) h.tail ht.tail (halve_inc _ _) (halve_len hmk hn)
      have hw := fun x => halve_na x (y :: m) l
      have hq := fun v hv => halve_sub (a := y :: m) (b := l) (x := v) hv
      simp only [up]
      generalize halve (y :: m) l = z at *
      generalize hym : y :: m = ym at *
      have hsub : ∀ v ∈ z, v ∈ l ∨ v ∈ ym := by
        intro v hv
        exact (hq v hv).symm
      refine ⟨Lv.cons ⟨inc_nil, .inl rfl⟩ c.lv, Tip.cons c.tip (up_ne _ _), ?_, ?_, fun x => ?_, fun n hn' v hv => ?_, ?_⟩
      · have := c.cnt; simp only [P.cnt, List.length_nil, hmk]; omega
      · have h1 := c.cnt; have h2 := c.pot
        simp only [P.pot, P.cnt, h1, h2, Nat.zero_mul, Nat.pow_zero, Nat.one_mul, Nat.mul_add]
        have : 2 * k * (2 * (up r z).2) = 2 * (2 * k * (up r z).2) := by rw [Nat.mul_left_comm]
        omega
      · have h1 := c.wt x; have h2 := hw x
        simp only [P.wt, na_nil, Nat.pow_zero, Nat.one_mul] at *
        omega
      · rcases List.mem_cons.1 hn' with rfl | hn'
        · simp at hv
        · rcases c.sub n hn' v hv with h1 | ⟨m', h1, h2⟩
          · rcases hsub v h1 with h2 | h2
            · exact .inl h2
            · exact .inr ⟨ym, by simp, h2⟩
          · exact .inr ⟨m', by simp [h1], h2⟩
      · have := c.len; simp only [List.length_cons]; omega
theorem car_both {k : Nat} (hk : 0 < k) (j : Nat) (lv : List (List Int)) (l : List Int) (h : Lv k lv) (ht : Tip lv) (hl : Inc l) (hn : l.length = k) : Cars k lv l j (car lv l j) := by
  induction j generalizing lv with
  | zero => exact up_both hk lv l h ht hl hn
  | succ j ih =>
    cases lv with
    | nil =>
      have c := ih [] (Lv.nil k) trivial
      simp only [car]
      refine ⟨Lv.cons ⟨inc_nil, .inl rfl⟩ c.lv, Tip.cons c.tip (car_ne _ _ _), ?_, ?_, fun x => ?_, fun m hm v hv => ?_, ?_⟩
      · have h1 := c.cnt; simp only [P.cnt, List.length_nil, h1, Nat.pow_succ]; rw [Nat.mul_right_comm]; omega
      · have h1 := c.cnt; have h2 := c.pot
        simp only [P.pot, P.cnt, h1, h2, Nat.zero_add, Nat.pow_succ, Nat.mul_add]
        have e1 : (j + 1) * (2 ^ j * 2) * k = 2 * (j * 2 ^ j * k) + 2 * (2 ^ j * k) := by
          rw [Nat.add_mul, Nat.one_mul, Nat.add_mul, show j * (2 ^ j * 2) * k = 2 * (j * 2 ^ j * k) by rw [← Nat.mul_assoc, Nat.mul_right_comm, Nat.mul_comm], show 2 ^ j * 2 * k = 2 * (2 ^ j * k) by rw [Nat.mul_right_comm, Nat.mul_comm]]
        have e2 : 2 * k * (2 * (car [] l j).2) = 2 * (2 * k * (car [] l j).2) := by rw [Nat.mul_left_comm]
        omega
      · have h1 := c.wt x
        simp only [P.wt, na_nil, Nat.pow_succ] at *
        rw [show 2 ^ j * 2 * na x l = 2 * (2 ^ j * na x l) by rw [Nat.mul_right_comm, Nat.mul_comm]]
        omega
      · rcases List.mem_cons.1 hm with rfl | hm
        · simp at hv
        · exact c.sub m hm v hv
      · have := c.len; simp only [List.length_cons, List.length_nil] at *; omega
    | cons m r =>
      have c := ih r h.tail ht.tail
      simp only [car]
      refine ⟨Lv.cons h.head c.lv, Tip.cons c.tip (car_ne _ _ _), ?_, ?_, fun x => ?_, fun m' hm v hv => ?_, ?_⟩
      · have h1 := c.cnt; simp only [P.cnt, h1, Nat.pow_succ, Nat.mul_add]; rw [Nat.mul_right_comm]; omega
      · have h1 := c.cnt; have h2 := c.pot
        simp only [P.pot, P.cnt, h1, h2, Nat.pow_succ, Nat.mul_add]
        have e1 : (j + 1) * (2 ^ j * 2) * k = 2 * (j * 2 ^ j * k) + 2 * (2 ^ j * k) := by
          rw [Nat.add_mul, Nat.one_mul, Nat.add_mul, show j * (2 ^ j * 2) * k = 2 * (j * 2 ^ j * k) by rw [← Nat.mul_assoc, Nat.mul_right_comm, Nat.mul_comm], show 2 ^ j * 2 * k = 2 * (2 ^ j * k) by rw [Nat.mul_right_comm, Nat.mul_comm]]
        have e2 : 2 * k * (2 * (car r l j).2) = 2 * (2 * k * (car r l j).2) := by rw [Nat.mul_left_comm]
        omega
      · have h1 := c.wt x
        simp only [P.wt, Nat.pow_succ] at *
        rw [show 2 ^ j * 2 * na x l = 2 * (2 ^ j * na x l) by rw [Nat.mul_right_comm, Nat.mul_comm]]
        omega
      · rcases List.mem_cons.1 hm with rfl | hm
        · exact .inr ⟨_, by simp, hv⟩
        · rcases c.sub m' hm v hv with h1 | ⟨m2, h1, h2⟩
          · exact .inl h1
          · exact .inr ⟨m2, by simp [h1], h2⟩
      · have := c.len; simp only [List.length_cons] at *; omega
/-- A rank. -/
structure Rk where
  k : Int
  tail : List Int
  lv : List (List Int)
  n : Int
  sl : Int
/-- What it keeps, but for its bounds. -/
structure Mid (s : Rk) : Prop where
  k2 : 2 ≤ s.k
  k64 : s.k ≤ 64
  room : (s.tail.length : Int) < s.k
  inc : Inc s.tail
  lv : Lv s.k.toNat s.lv
  tip : Tip s.lv
  n : s.n = s.tail.length + cnt s.lv
  sl : 0 ≤ s.sl
def Good (s : Rk) : Prop := Mid s ∧ s.lv.length ≤ 20 ∧ s.sl ≤ 1152921504606846976
open Classical in
noncomputable def chkR (s : Rk) : Int := if Good s then 0 else 4
theorem chkR_ok {s : Rk} (h : Good s) : chkR s = 0 := if_pos h
theorem chkR_not {s : Rk} (h : ¬ Good s) : chkR s = 4 := if_neg h
theorem chkR_good {s : Rk} (h : chkR s = 0) : Good s := Classical.byContradiction fun hn => by rw [chkR_not hn] at h; cases h
def kept (s : Rk) : List Int := s.lv.flatten ++ s.tail
def wtR (x : Int) (s : Rk) : Nat := na x s.tail + wt x s.lv
theorem mem_kept {s : Rk} {v : Int} : v ∈ kept s ↔ v ∈ s.tail ∨ ∃ l ∈ s.lv, v ∈ l := by
  unfold kept; rw [List.mem_append, List.mem_flatten]
  constructor
  · rintro (⟨l, h1, h2⟩ | h)
    · exact .inr ⟨l, h1, h2⟩
    · exact .inl h
  · rintro (h | ⟨l, h1, h2⟩)
    · exact .inr h
    · exact .inl ⟨l, h1, h2⟩
theorem wtR_le {s : Rk} (h : Mid s) (x : Int) : (wtR x s : Int) ≤ s.n := by
  have h1 := na_le x s.tail; have h2 := wt_le x s.lv; have := h.n; unfold wtR; omega
theorem wtR_mono {x y : Int} (h : x ≤ y) (s : Rk) : wtR x s ≤ wtR y s := by
  have h1 := na_mono h s.tail; have h2 := wt_mono h s.lv; unfold wtR; omega
theorem wtR_all {s : Rk} (h : Mid s) {x : Int} (hx : ∀ v ∈ kept s, v ≤ x) : (wtR x s : Int) = s.n := by
  have h1 := na_all fun v hv => hx v (mem_kept.2 (.inl hv))
  have h2 := wt_all fun l hl v hv => hx v (mem_kept.2 (.inr ⟨l, hl, hv⟩))
  unfold wtR; rw [h1, h2, h.n]; omega
theorem wtR_none {s : Rk} {x : Int} (hx : ∀ v ∈ kept s, x < v) : wtR x s = 0 := by
  have h1 := na_none fun v hv => hx v (mem_kept.2 (.inl hv))
  have h2 := wt_none fun l hl v hv => hx v (mem_kept.2 (.inr ⟨l, hl, hv⟩))
  unfold wtR; rw [h1, h2]
theorem na_same {x y : Int} {l : List Int} (h : ∀ v ∈ l, v ≤ x ↔ v ≤ y) : na x l = na y l := by
  unfold na; exact List.countP_congr fun v hv => by simp only [decide_eq_true_eq]; exact h v hv
theorem wt_same {x y : Int} {lv : List (List Int)} (h : ∀ l ∈ lv, ∀ v ∈ l, v ≤ x ↔ v ≤ y) : wt x lv = wt y lv := by
  induction lv with
  | nil => rfl
  | cons l r ih => simp only [wt, na_same (h l (by simp)), ih fun m hm => h m (by simp [hm])]
theorem wtR_same {x y : Int} {s : Rk} (h : ∀ v ∈ kept s, v ≤ x ↔ v ≤ y) : wtR x s = wtR y s := by
  unfold wtR
  rw [na_same fun v hv => h v (mem_kept.2 (.inl hv)), wt_same fun l hl v hv => h v (mem_kept.2 (.inr ⟨l, hl, hv⟩))]
theorem list_max (l : List Int) (h : l ≠ []) : ∃ m ∈ l, ∀ v ∈ l, v ≤ m := by
  induction l with
  | nil => exact absurd rfl h
  | cons x l ih =>
    cases l with
    | nil => exact ⟨x, by simp, by simp⟩
    | cons y l =>
      obtain ⟨m, h1, h2⟩ := ih (by simp)
      by_cases hx : x ≤ m
      · refine ⟨m, by simp [h1], fun v hv => ?_⟩
        rcases List.mem_cons.1 hv with h3 | h3
        · omega
        · exact h2 v h3
      · refine ⟨x, by simp, fun v hv => ?_⟩
        rcases List.mem_cons.1 hv with h3 | h3
        · omega
        · have := h2 v h3; omega
/-- Below each number of weight stands one that is kept, and of the same weight. -/
theorem wtR_kept {s : Rk} {z : Int} (h : 0 < wtR z s) : ∃ y ∈ kept s, y ≤ z ∧ wtR y s = wtR z s := by
  have hne : (kept s).filter (fun v => decide (v ≤ z)) ≠ [] := by
    intro he
    have := wtR_none (s := s) (x := z) fun v hv => by
      have := List.filter_eq_nil_iff.1 he v hv
      simp at this; omega
    omega
  obtain ⟨m, h1, h2⟩ := list_max _ hne
  rw [List.mem_filter] at h1
  have hm : m ≤ z := by simpa using h1.2
  refine ⟨m, h1.1, hm, wtR_same fun v hv => ?_⟩
  constructor
  · intro h; omega
  · intro h; exact h2 v (List.mem_filter.2 ⟨hv, by simpa using h⟩)
/-- What stands at rank r. -/
def IsQ (s : Rk) (r x : Int) : Prop := x ∈ kept s ∧ r ≤ wtR x s ∧ ∀ y ∈ kept s, r ≤ wtR y s → x ≤ y
theorem IsQ.one {s : Rk} {r x y : Int} (hx : IsQ s r x) (hy : IsQ s r y) : x = y := by
  have := hx.2.2 y hy.1 hy.2.1; have := hy.2.2 x hx.1 hx.2.1; omega
/-- Below it all weigh less. -/
theorem IsQ.below {s : Rk} {r x : Int} (hr : 1 ≤ r) (h : IsQ s r x) {z : Int} (hz : z < x) : (wtR z s : Int) < r := by
  rcases Nat.eq_zero_or_pos (wtR z s) with h0 | h0
  · omega
  · obtain ⟨y, h1, h2, h3⟩ := wtR_kept h0
    rcases Int.lt_or_le (wtR z s) r with h4 | h4
    · exact h4
    · have := h.2.2 y h1 (by omega); omega
theorem IsQ.mono {s : Rk} {r q x y : Int} (hx : IsQ s r x) (hy : IsQ s q y) (h : r ≤ q) : x ≤ y := hx.2.2 y hy.1 (by have := hy.2.1; omega)
theorem IsQ.last {s : Rk} (hs : Mid s) {x : Int} (h : IsQ s s.n x) : (wtR x s : Int) = s.n := by
  have := wtR_le hs x; have := h.2.1; omega
/-- One number more in a list in order. -/
def ins (v : Int) (l : List Int) : List Int := srt (v :: l)
theorem ins_len (v : Int) (l : List Int) : (ins v l).length = l.length + 1 := by unfold ins; rw [srt_len]; rfl
theorem ins_inc (v : Int) (l : List Int) : Inc (ins v l) := srt_inc _
theorem ins_na (x v : Int) (l : List Int) : na x (ins v l) = na x l + if v ≤ x then 1 else 0 := by unfold ins; rw [na_perm (srt_perm _), na_cons]
theorem mem_ins {x v : Int} {l : List Int} : x ∈ ins v l ↔ x = v ∨ x ∈ l := by unfold ins; rw [mem_srt, List.mem_cons]
/-- A number more. -/
def adU (s : Rk) (v : Int) : Rk :=
  if ((ins v s.tail).length : Int) = s.k then ⟨s.k, [], (up s.lv (ins v s.tail)).1, s.n + 1, s.sl + (up s.lv (ins v s.tail)).2⟩ else ⟨s.k, ins v s.tail, s.lv, s.n + 1, s.sl⟩
/-- A list carried to level j. -/
def caU (s : Rk) (l : List Int) (j : Nat) : Rk := ⟨s.k, s.tail, (car s.lv l j).1, s.n + l.length * 2 ^ j, s.sl + (car s.lv l j).2⟩
/-- Those of levels from j on that are not empty. -/
def casU (s : Rk) : List (List Int) → Nat → Rk
  | [], _ => s
  | l :: r, j => casU (if l = [] then s else caU s l j) r (j + 1)
def mgU (a b : Rk) : Rk := b.tail.foldl adU (casU ⟨a.k, a.tail, a.lv, a.n, a.sl + b.sl⟩ b.lv 0)
/-- Within its bounds, or too large. -/
def bndE (s : Rk) : Int := if 20 < s.lv.length ∨ 1152921504606846976 < s.sl then 2 else 0
theorem bnd_good {s : Rk} (h : Mid s) : bndE s = 0 ↔ Good s := by
  unfold bndE Good
  constructor
  · intro hb
    split at hb
    · cases hb
    · rename_i hc; exact ⟨h, by omega, by omega⟩
  · rintro ⟨_, h1, h2⟩; rw [if_neg (by omega)]
theorem bnd_two {s : Rk} (h : bndE s ≠ 0) : bndE s = 2 := by
  unfold bndE at *; split at h
  · rename_i hc; rw [if_pos hc]
  · exact absurd rfl h
def empR (k : Int) : Rk := ⟨k, [], [], 0, 0⟩
theorem empR_mid {k : Int} (h : 2 ≤ k ∧ k ≤ 64) : Mid (empR k) := ⟨h.1, h.2, by simp [empR]; omega, inc_nil, Lv.nil _, trivial, by simp [empR, cnt], by simp [empR]⟩
theorem empR_good {k : Int} (h : 2 ≤ k ∧ k ≤ 64) : Good (empR k) := ⟨empR_mid h, by simp [empR], by simp [empR]⟩
/-- What a rank that has come to be tells of: N numbers, f of them not above a number; d, p what Slack and halvings were at first. -/
structure Rel (s : Rk) (N : Int) (f : Int → Int) (d p : Int) (M : Int → Prop) : Prop where
  mid : Mid s
  n : s.n = N
  wt : ∀ x, (wtR x s : Int) ≤ f x ∧ f x ≤ wtR x s + (s.sl - d)
  pot : 2 * s.k * (s.sl - d) = pot s.lv - p
  sub : ∀ v ∈ kept s, M v
theorem Rel.f_eq {s : Rk} {N N' : Int} {f f' : Int → Int} {d d' p p' : Int} {M : Int → Prop} (h : Rel s N f d p M) (hN : N = N') (hf : ∀ x, f x = f' x) (hd : d = d') (hp : p = p') : Rel s N' f' d' p' M := by
  subst hN hd hp; obtain rfl : f = f' := funext hf; exact h
theorem Rel.imp {s : Rk} {N : Int} {f : Int → Int} {d p : Int} {M M' : Int → Prop} (h : Rel s N f d p M) (hM : ∀ v, M v → M' v) : Rel s N f d p M' := ⟨h.mid, h.n, h.wt, h.pot, fun v hv => hM v (h.sub v hv)⟩
theorem rel_self {s : Rk} (h : Mid s) : Rel s s.n (fun x => wtR x s) s.sl (pot s.lv) (fun v => v ∈ kept s) := ⟨h, rfl, fun x => by omega, by rw [Int.sub_self, Int.mul_zero]; omega, fun v hv => hv⟩
theorem rel_emp {k : Int} (h : 2 ≤ k ∧ k ≤ 64) : Rel (empR k) 0 (fun x => na x []) 0 0 (fun v => v ∈ ([] : List Int)) :=
  ⟨empR_mid h, rfl, fun x => by simp [empR, wtR, na_nil, P.wt], by simp [empR, P.pot], fun v hv => by simp [empR, kept] at hv⟩
theorem Rel.ad {s : Rk} {N : Int} {f : Int → Int} {d p : Int} {M : Int → Prop} (h : Rel s N f d p M) (v : Int) (hv : M v) : Rel (adU s v) (N + 1) (fun x => f x + if v ≤ x then 1 else 0) d p M := by
  have hm := h.mid
  have hk2 := hm.k2
  have hl := ins_len v s.tail
  unfold adU
  split
  · rename_i he
    have hk : (ins v s.tail).length = s.k.toNat := by omega
    have hk0 : 0 < s.k.toNat := by omega
    have c := up_both hk0 s.lv (ins v s.tail) hm.lv hm.tip (ins_inc _ _) hk
    have hc := c.cnt
    have hp := c.pot
    generalize hq : up s.lv (ins v s.tail) = q at *
    have hn := hm.n
    refine ⟨⟨hk2, hm.k64, by simp; omega, inc_nil, c.lv, c.tip, ?_, ?_⟩, ?_, fun x => ?_, ?_, fun z hz => ?_⟩
    · simp only [List.length_nil]; rw [hc]; omega
    · have := hm.sl; simp only; omega
    · have := h.n; simp only; omega
    · have h1 := h.wt x; have h2 := c.wt x; have h3 := ins_na x v s.tail
      unfold wtR at *
      simp only [na_nil, Nat.pow_zero, Nat.one_mul] at *
      split at h3 <;> rename_i hvx <;> simp only [hvx, if_true, if_false] <;> omega
    · have h1 := h.pot
      simp only
      rw [hp]
      have e1 : s.sl + ((q.2 : Nat) : Int) - d = (s.sl - d) + (q.2 : Nat) := by omega
      rw [e1, Int.mul_add, h1]
      have e2 : ((s.k.toNat : Nat) : Int) = s.k := by omega
      simp only [Nat.zero_mul, Nat.add_zero]
      push_cast
      rw [e2]; omega
    · rcases mem_kept.1 hz with h1 | ⟨l, h1, h2⟩
      · simp at h1
      · rcases c.sub l h1 z h2 with h3 | ⟨m', h3, h4⟩
        · rcases mem_ins.1 h3 with rfl | h3
          · exact hv
          · exact h.sub z (mem_kept.2 (.inl h3))
        · exact h.sub z (mem_kept.2 (.inr ⟨m', h3, h4⟩))
  · rename_i he
    have hr := hm.room
    refine ⟨⟨hk2, hm.k64, by simp only; omega, ins_inc _ _, hm.lv, hm.tip, ?_, hm.sl⟩, ?_, fun x => ?_, h.pot, fun z hz => ?_⟩
    · have := hm.n; simp only; omega
    · have := h.n; simp only; omega
    · have h1 := h.wt x; have h3 := ins_na x v s.tail
      unfold wtR at *
      simp only at *
      split at h3 <;> rename_i hvx <;> simp only [hvx, if_true, if_false] <;> omega
    · rcases mem_kept.1 hz with h1 | ⟨l, h1, h2⟩
      · rcases mem_ins.1 h1 with rfl | h3
        · exact hv
        · exact h.sub z (mem_kept.2 (.inl h3))
      · exact h.sub z (mem_kept.2 (.inr ⟨l, h1, h2⟩))
theorem Rel.ca {s : Rk} {N : Int} {f : Int → Int} {d p : Int} {M : Int → Prop} (h : Rel s N f d p M) (l : List Int) (j : Nat) (hl : Inc l) (hn : (l.length : Int) = s.k) (hM : ∀ v ∈ l, M v) :
    Rel (caU s l j) (N + 2 ^ j * l.length) (fun x => f x + 2 ^ j * na x l) d (p + j * 2 ^ j * l.length) M := by
  have hm := h.mid
  have hk2 := hm.k2
  have hk : l.length = s.k.toNat := by omega
  have hk0 : 0 < s.k.toNat := by omega
  have c := car_both hk0 j s.lv l hm.lv hm.tip hl hk
  have hc := c.cnt
  have hp := c.pot
  unfold caU
  generalize hq : car s.lv l j = q at *
  have hn' := hm.n
  have hnn := h.n
  refine ⟨⟨hk2, hm.k64, hm.room, hm.inc, c.lv, c.tip, ?_, ?_⟩, ?_, fun x => ?_, ?_, fun z hz => ?_⟩
  · simp only; rw [hc, hk, hn']; push_cast; rw [Int.mul_comm (2 ^ j)]; omega
  · have := hm.sl; simp only; omega
  · simp only; rw [hnn, Int.mul_comm]
  · have h1 := h.wt x; have h2 := c.wt x
    unfold wtR at *
    simp only at *
    have h3 : ((2 ^ j * na x l : Nat) : Int) = 2 ^ j * (na x l : Int) := by push_cast; rfl
    rw [← h3]
    omega
  · have h1 := h.pot
    simp only
    rw [hp, hk]
    have e1 : s.sl + ((q.2 : Nat) : Int) - d = (s.sl - d) + (q.2 : Nat) := by omega
    rw [e1, Int.mul_add, h1]
    have e2 : ((s.k.toNat : Nat) : Int) = s.k := by omega
    push_cast
    rw [e2]; omega
  · rcases mem_kept.1 hz with h1 | ⟨l', h1, h2⟩
    · exact h.sub z (mem_kept.2 (.inl h1))
    · rcases c.sub l' h1 z h2 with h3 | ⟨m', h3, h4⟩
      · exact hM z h3
      · exact h.sub z (mem_kept.2 (.inr ⟨m', h3, h4⟩))
theorem adU_k (s : Rk) (v : Int) : (adU s v).k = s.k := by unfold adU; split <;> rfl
theorem adU_mid {s : Rk} (h : Mid s) (v : Int) : Mid (adU s v) := ((rel_self h).imp (M' := fun _ => True) (fun _ _ => trivial)).ad v trivial |>.mid
/-- Numbers one by one. -/
theorem Rel.ads {s : Rk} {N : Int} {f : Int → Int} {d p : Int} {M : Int → Prop} (h : Rel s N f d p M) (l : List Int) (hl : ∀ v ∈ l, M v) : Rel (l.foldl adU s) (N + l.length) (fun x => f x + na x l) d p M := by
  induction l generalizing s N f with
  | nil => exact h.f_eq (by simp) (fun x => by simp [na_nil]) rfl rfl
  | cons v l ih =>
    have := ih (h.ad v (hl v (by simp))) fun w hw => hl w (by simp [hw])
    refine this.f_eq (by simp only [List.length_cons]; omega) (fun x => ?_) rfl rfl
    rw [na_cons]; split <;> omega
theorem casU_k (r : List (List Int)) (s : Rk) (j : Nat) : (casU s r j).k = s.k := by
  induction r generalizing s j with
  | nil => rfl
  | cons l r ih => rw [casU, ih]; split <;> rfl
theorem ads_k (l : List Int) (s : Rk) : (l.foldl adU s).k = s.k := by
  induction l generalizing s with
  | nil => rfl
  | cons v l ih => rw [List.foldl_cons, ih, adU_k]
theorem mgU_k (a b : Rk) : (mgU a b).k = a.k := by unfold mgU; rw [ads_k, casU_k]
theorem Rel.cas {s : Rk} {N : Int} {f : Int → Int} {d p : Int} {M : Int → Prop} (h : Rel s N f d p M) (r : List (List Int)) (j : Nat) (hr : Lv s.k.toNat r) (hM : ∀ l ∈ r, ∀ v ∈ l, M v) :
    Rel (casU s r j) (N + 2 ^ j * cnt r) (fun x => f x + 2 ^ j * P.wt x r) d (p + 2 ^ j * (P.pot r + j * cnt r)) M := by
  induction r generalizing s N f j p with
  | nil => exact h.f_eq (by simp [casU, cnt]) (fun x => by simp [P.wt]) rfl (by simp [P.pot, cnt])
  | cons l r ih =>
    rw [casU]
    have hpow : (2 : Int) ^ (j + 1) = 2 * 2 ^ j := by rw [Int.pow_succ, Int.mul_comm]
    by_cases hl : l = []
    · subst hl
      rw [if_pos rfl]
      refine (ih h (j + 1) hr.tail (fun m hm => hM m (by simp [hm]))).f_eq ?_ (fun x => ?_) rfl ?_
      · rw [hpow]; simp only [cnt, List.length_nil]; push_cast; rw [Int.zero_add, Int.mul_assoc, Int.mul_left_comm]
      · rw [hpow]; simp only [P.wt, na_nil]; push_cast; rw [Int.zero_add, Int.mul_assoc, Int.mul_left_comm]
      · rw [hpow]; simp only [P.pot, cnt, List.length_nil]; push_cast; grind
    · rw [if_neg hl]
      have hh := hr.head
      have hln : l.length ≠ 0 := fun e => hl (List.length_eq_zero_iff.1 e)
      have hk2 := h.mid.k2
      have hlk : (l.length : Int) = s.k := by rcases hh.2 with h1 | h1 <;> omega
      have h1 := h.ca l j hh.1 hlk (hM l (by simp))
      refine (ih h1 (j + 1) hr.tail (fun m hm => hM m (by simp [hm]))).f_eq ?_ (fun x => ?_) rfl ?_
      · rw [hpow]; simp only [cnt]; push_cast; grind
      · rw [hpow]; simp only [P.wt]; push_cast; grind
      · rw [hpow]; simp only [P.pot, cnt]; push_cast; grind
theorem Rel.mg {a b : Rk} {N : Int} {f : Int → Int} {p : Int} {M : Int → Prop} (h : Rel a N f 0 p M) (hb : Mid b) (hk : a.k = b.k) (hM : ∀ v ∈ kept b, M v) :
    Rel (mgU a b) (N + b.n) (fun x => f x + wtR x b) b.sl (p + P.pot b.lv) M := by
  have hbs := hb.sl
  have hm := h.mid
  have h0 : Rel ⟨a.k, a.tail, a.lv, a.n, a.sl + b.sl⟩ N f b.sl p M := by
    refine ⟨⟨hm.k2, hm.k64, hm.room, hm.inc, hm.lv, hm.tip, hm.n, by have := hm.sl; simp only; omega⟩, h.n, fun x => ?_, ?_, h.sub⟩
    · have := h.wt x
      unfold wtR at *
      simp only at *; omega
    · have := h.pot
      simp only at *
      rw [show a.sl + b.sl - b.sl = a.sl - 0 by omega]; exact this
  have h1 := h0.cas b.lv 0 (by simp only; rw [hk]; exact hb.lv) (fun l hl v hv => hM v (mem_kept.2 (.inr ⟨l, hl, hv⟩)))
  have h2 := h1.ads b.tail (fun v hv => hM v (mem_kept.2 (.inl hv)))
  refine h2.f_eq ?_ (fun x => ?_) rfl ?_
  · rw [hb.n]; simp; omega
  · unfold wtR; push_cast; simp; omega
  · simp
/-- A rank of these numbers. -/
def Rep (s : Rk) (l : List Int) : Prop := Rel s l.length (fun x => na x l) 0 0 (fun v => v ∈ l)
theorem rep_emp {k : Int} (h : 2 ≤ k ∧ k ≤ 64) : Rep (empR k) [] := rel_emp h
theorem Rep.ad {s : Rk} {l : List Int} (h : Rep s l) (v : Int) : Rep (adU s v) (l ++ [v]) := by
  have h1 := (h.imp (M' := fun w => w ∈ l ++ [v]) (fun w hw => by simp [hw])).ad v (by simp)
  refine h1.f_eq (by simp) (fun x => ?_) rfl rfl
  rw [na_app, na_cons, na_nil]; split <;> simp
theorem Rep.mg {a b : Rk} {l m : List Int} (ha : Rep a l) (hb : Rep b m) (hk : a.k = b.k) : Rep (mgU a b) (l ++ m) := by
  have hbm := hb.mid
  have h1 := (ha.imp (M' := fun w => w ∈ l ++ m) (fun w hw => by simp [hw])).mg hbm hk (fun v hv => by have := hb.sub v hv; simp [this])
  have hbn := hb.n
  refine ⟨h1.mid, ?_, fun x => ?_, ?_, h1.sub⟩
  · have := h1.n; rw [List.length_append]; omega
  · have h2 := h1.wt x; have h3 := hb.wt x
    rw [na_app]; omega
  · have h2 := h1.pot; have h3 := hb.pot
    have hk2 := mgU_k a b
    rw [hk2, hk] at h2 ⊢
    rw [Int.mul_sub] at h2 h3 ⊢
    omega
theorem Rep.slack {s : Rk} {l : List Int} (h : Rep s l) : 2 * s.k * s.sl ≤ s.n * (max (s.lv.length - 1) 0 : Nat) := by
  have h1 := h.pot
  have h2 := pot_le s.lv
  have h3 := h.mid.n
  rw [Int.sub_zero] at h1
  rw [h1, Nat.max_eq_left (Nat.zero_le _)]
  have h4 : ((s.lv.length - 1 : Nat) : Int) * (cnt s.lv : Int) ≤ ((s.lv.length - 1 : Nat) : Int) * s.n := Int.mul_le_mul_of_nonneg_left (by omega) (by omega)
  have h5 : ((pot s.lv : Nat) : Int) ≤ ((s.lv.length - 1 : Nat) : Int) * (cnt s.lv : Int) := by exact_mod_cast h2
  rw [Int.mul_comm s.n]
  omega
/-- How many levels so many numbers have, at most. -/
theorem Mid.levels {s : Rk} (h : Mid s) {e : Nat} (hn : s.n < 2 ^ e * s.k) : s.lv.length ≤ e := by
  rcases tip_pow h.lv h.tip with h1 | h1
  · rw [h1]; simp
  · rcases Nat.lt_or_ge e s.lv.length with h2 | h2
    · exfalso
      have h3 : 2 ^ e ≤ 2 ^ (s.lv.length - 1) := Nat.pow_le_pow_right (by omega) (by omega)
      have h4 : 2 ^ e * s.k.toNat ≤ 2 ^ (s.lv.length - 1) * s.k.toNat := Nat.mul_le_mul_right _ h3
      have h5 := h.n
      have h6 : ((2 ^ e * s.k.toNat : Nat) : Int) = 2 ^ e * s.k := by push_cast; rw [Int.toNat_of_nonneg (by have := h.k2; omega)]
      omega
    · exact h2
theorem Mid.num {s : Rk} (h : Mid s) : s.n < 2 ^ s.lv.length * s.k := by
  have h1 := cnt_lt h.lv
  have h2 := h.n
  have h3 := h.room
  have h4 := h.k2
  have h5 : ((2 ^ s.lv.length * s.k.toNat : Nat) : Int) = 2 ^ s.lv.length * s.k := by push_cast; rw [Int.toNat_of_nonneg (by omega)]
  omega
theorem Good.num {s : Rk} (h : Good s) : s.n < 1048576 * s.k := by
  have h1 := h.1.num
  have h2 : (2 : Int) ^ s.lv.length ≤ 2 ^ 20 := by exact_mod_cast Nat.pow_le_pow_right (show 0 < 2 by omega) h.2.1
  have h3 : (2 : Int) ^ s.lv.length * s.k ≤ 2 ^ 20 * s.k := Int.mul_le_mul_of_nonneg_right h2 (by have := h.1.k2; omega)
  have h4 : (2 : Int) ^ 20 = 1048576 := by decide
  rw [h4] at h3
  omega
/-- What Slack has grown by. -/
theorem Rel.grown {s : Rk} {N : Int} {f : Int → Int} {d p : Int} {M : Int → Prop} (h : Rel s N f d p M) (hp : 0 ≤ p) (hl : s.lv.length ≤ 21) (hn : N ≤ 2097152 * s.k) : s.sl ≤ d + 20971520 := by
  have h1 := h.pot
  have h2 := pot_le s.lv
  have h3 := h.mid.n
  have h4 := h.n
  have hk := h.mid.k2
  have h5 : P.pot s.lv ≤ 20 * cnt s.lv := Nat.le_trans h2 (Nat.mul_le_mul_right _ (by omega))
  have h6 : 2 * s.k * (s.sl - d) ≤ 2 * s.k * 20971520 := by omega
  have := Int.le_of_mul_le_mul_left h6 (by omega)
  omega
theorem Rep.few {s : Rk} {l : List Int} (h : Rep s l) (hl : l.length ≤ 2000) : s.lv.length ≤ 10 ∧ s.sl ≤ 10000 ∧ Good s := by
  have hk := h.mid.k2
  have hn := h.n
  have h1 : s.lv.length ≤ 10 := h.mid.levels (e := 10) (by rw [show (2 : Int) ^ 10 = 1024 by decide]; omega)
  have h2 := h.pot
  have h3 : pot s.lv ≤ 9 * cnt s.lv := Nat.le_trans (pot_le s.lv) (Nat.mul_le_mul_right _ (by omega))
  have h4 := h.mid.n
  have h5 : 4 * s.sl ≤ 2 * s.k * s.sl := Int.mul_le_mul_of_nonneg_right (by omega) h.mid.sl
  have h6 : s.sl ≤ 10000 := by simp at h2; omega
  exact ⟨h1, h6, h.mid, by omega, by omega⟩
end P
end Go.Proofs.Ytlndbmenaaiogaa
