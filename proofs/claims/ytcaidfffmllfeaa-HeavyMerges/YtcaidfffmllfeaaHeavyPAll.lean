/- Several texts in one. -/
import Derived.Test.YtcaidfffmllfeaaRows
import Derived.WalkKit
import Derived.Lib.Bytealg
/- Plain: tallies of keys: two put together, what is taken off, and their bounds. -/
namespace Go.Proofs.Ytcaidfffmllfeaa
namespace P
set_option linter.unusedVariables false
theorem less_irr (a : List UInt8) : Op.bytesLess a a = false := by
  induction a with
  | nil => rfl
  | cons c a ih => simp [Op.bytesLess, ih]
theorem less_trans {a b c : List UInt8} (h1 : Op.bytesLess a b = true) (h2 : Op.bytesLess b c = true) : Op.bytesLess a c = true := by
  induction a generalizing b c with
  | nil =>
    cases c with
    | nil => cases b <;> simp [Op.bytesLess] at h2
    | cons z c => rfl
  | cons x a ih =>
    cases b with
    | nil => simp [Op.bytesLess] at h1
    | cons y b =>
      cases c with
      | nil => simp [Op.bytesLess] at h2
      | cons z c =>
        simp only [Op.bytesLess, Bool.or_eq_true, Bool.and_eq_true, decide_eq_true_eq, beq_iff_eq] at h1 h2 ⊢
        rcases h1 with h1 | ⟨rfl, h1⟩
        · rcases h2 with h2 | ⟨rfl, h2⟩
          · exact .inl (UInt8.lt_trans h1 h2)
          · exact .inl h1
        · rcases h2 with h2 | ⟨rfl, h2⟩
          · exact .inl h2
          · exact .inr ⟨rfl, ih h1 h2⟩
theorem less_total (a b : List UInt8) : Op.bytesLess a b = true ∨ a = b ∨ Op.bytesLess b a = true := by
  induction a generalizing b with
  | nil =>
    cases b with
    | nil => exact .inr (.inl rfl)
    | cons y b => exact .inl rfl
  | cons x a ih =>
    cases b with
    | nil => exact .inr (.inr rfl)
    | cons y b =>
      simp only [Op.bytesLess, Bool.or_eq_true, Bool.and_eq_true, decide_eq_true_eq, beq_iff_eq]
      rcases UInt8.lt_or_lt_of_ne (a := x) (b := y) with h
      by_cases hxy : x = y
      · subst hxy
        rcases ih b with h | h | h
        · exact .inl (.inr ⟨rfl, h⟩)
        · exact .inr (.inl (by rw [h]))
        · exact .inr (.inr (.inr ⟨rfl, h⟩))
      · rcases h hxy with h | h
        · exact .inl (.inl h)
        · exact .inr (.inr (.inl h))
theorem less_asym {a b : List UInt8} (h : Op.bytesLess a b = true) : Op.bytesLess b a = false := by
  cases h2 : Op.bytesLess b a with
  | false => rfl
  | true => have := less_trans h h2; rw [less_irr] at this; cases this
/-- What the library's comparison says. -/
theorem cmp_less (a b : List UInt8) : decide (Lib.compareBytes a b < 0) = Op.bytesLess a b := by
  induction a generalizing b with
  | nil => cases b <;> simp [Lib.compareBytes, Op.bytesLess]
  | cons x a ih =>
    cases b with
    | nil => simp [Lib.compareBytes, Op.bytesLess]
    | cons y b =>
      simp only [Lib.compareBytes, Op.bytesLess]
      by_cases h1 : x < y
      · simp [h1]
      · by_cases h2 : y < x
        · have : x ≠ y := fun e => by subst e; exact h1 h2
          simp [h1, h2, this]
        · have : x = y := by
            rcases UInt8.lt_or_lt_of_ne (a := x) (b := y) with h
            exact Classical.byContradiction fun e => by rcases h e with h | h; exact h1 h; exact h2 h
          subst this
          simp [h1]
          exact ih b
/-- One text stands ahead of another one. -/
def kl (a b : ByteArray) : Bool := Op.bytesLess a.toList b.toList
theorem kl_irr (a : ByteArray) : kl a a = false := less_irr _
theorem kl_trans {a b c : ByteArray} (h1 : kl a b = true) (h2 : kl b c = true) : kl a c = true := less_trans h1 h2
theorem ba_ext {a b : ByteArray} (h : a.toList = b.toList) : a = b := by
  rw [Lib.toList_data, Lib.toList_data] at h
  cases a; cases b
  simp only at h
  rw [ByteArray.mk.injEq]
  exact Array.toList_inj.1 h
theorem kl_total (a b : ByteArray) : kl a b = true ∨ a = b ∨ kl b a = true := by
  rcases less_total a.toList b.toList with h | h | h
  · exact .inl h
  · exact .inr (.inl (ba_ext h))
  · exact .inr (.inr h)
theorem kl_asym {a b : ByteArray} (h : kl a b = true) : kl b a = false := less_asym h
theorem kl_ne {a b : ByteArray} (h : kl a b = true) : a ≠ b := fun e => by subst e; rw [kl_irr] at h; cases h

abbrev Ct := ByteArray × Int
/-- How often a key is told in a list. -/
def look : List Ct → ByteArray → Int
  | [], _ => 0
  | x :: l, k => (if x.1 = k then x.2 else 0) + look l k
def tot : List Ct → Int
  | [] => 0
  | x :: l => x.2 + tot l
theorem look_append (a b : List Ct) (k : ByteArray) : look (a ++ b) k = look a k + look b k := by
  induction a with
  | nil => simp [look]
  | cons x a ih => simp only [List.cons_append, look, ih]; omega
theorem tot_append (a b : List Ct) : tot (a ++ b) = tot a + tot b := by
  induction a with
  | nil => simp [tot]
  | cons x a ih => simp only [List.cons_append, tot, ih]; omega
theorem look_perm {a b : List Ct} (h : a.Perm b) (k : ByteArray) : look a k = look b k := by
  induction h with
  | nil => rfl
  | cons x _ ih => simp only [look, ih]
  | swap x y l => simp only [look]; omega
  | trans _ _ ih1 ih2 => rw [ih1, ih2]
theorem tot_perm {a b : List Ct} (h : a.Perm b) : tot a = tot b := by
  induction h with
  | nil => rfl
  | cons x _ ih => simp only [tot, ih]
  | swap x y l => simp only [tot]; omega
  | trans _ _ ih1 ih2 => rw [ih1, ih2]
abbrev Asc (l : List Ct) : Prop := l.Pairwise fun x y => kl x.1 y.1 = true
def Pos (l : List Ct) : Prop := ∀ x ∈ l, 0 < x.2
theorem look_none {l : List Ct} {k : ByteArray} (h : ∀ x ∈ l, x.1 ≠ k) : look l k = 0 := by
  induction l with
  | nil => rfl
  | cons x l ih => simp only [look]; rw [if_neg (h x (by simp)), ih (fun y hy => h y (by simp [hy]))]; rfl
theorem look_nonneg {l : List Ct} (hp : Pos l) (k : ByteArray) : 0 ≤ look l k := by
  induction l with
  | nil => simp [look]
  | cons x l ih =>
    have h1 := hp x (by simp)
    have h2 := ih (fun y hy => hp y (by simp [hy]))
    simp only [look]; split <;> omega
theorem tot_nonneg {l : List Ct} (hp : Pos l) : 0 ≤ tot l := by
  induction l with
  | nil => simp [tot]
  | cons x l ih =>
    have h1 := hp x (by simp)
    have h2 := ih (fun y hy => hp y (by simp [hy]))
    simp only [tot]; omega
theorem look_cons_gt {x : Ct} {l : List Ct} {k : ByteArray} (ha : Asc (x :: l)) (h : kl k x.1 = true) : look (x :: l) k = 0 := by
  refine look_none fun y hy => ?_
  rcases List.mem_cons.1 hy with rfl | hy
  · exact (kl_ne h).symm
  · exact (kl_ne (kl_trans h ((List.pairwise_cons.1 ha).1 y hy))).symm
theorem look_head {x : Ct} {l : List Ct} (ha : Asc (x :: l)) : look (x :: l) x.1 = x.2 := by
  simp only [look, if_true]
  rw [look_none fun y hy => (kl_ne ((List.pairwise_cons.1 ha).1 y hy)).symm]; omega
/-- Lists in order, of numbers above 0, are what they tell. -/
theorem asc_ext {a b : List Ct} (ha : Asc a) (hb : Asc b) (pa : Pos a) (pb : Pos b) (h : ∀ k, look a k = look b k) : a = b := by
  induction a generalizing b with
  | nil =>
    cases b with
    | nil => rfl
    | cons y b =>
      have h1 := h y.1
      rw [look_head hb] at h1
      have := pb y (by simp)
      simp [look] at h1; omega
  | cons x a ih =>
    cases b with
    | nil =>
      have h1 := h x.1
      rw [look_head ha] at h1
      have := pa x (by simp)
      simp [look] at h1; omega
    | cons y b =>
      have px := pa x (by simp)
      have py := pb y (by simp)
      have hk : x.1 = y.1 := by
        rcases kl_total x.1 y.1 with h1 | h1 | h1
        · have h2 := h x.1; rw [look_head ha, look_cons_gt hb h1] at h2; omega
        · exact h1
        · have h2 := h y.1; rw [look_head hb, look_cons_gt ha h1] at h2; omega
      have hv : x.2 = y.2 := by
        have h2 := h x.1; rw [look_head ha] at h2; rw [hk, look_head hb] at h2; exact h2
      obtain rfl : x = y := Prod.ext hk hv
      refine congrArg _ (ih (List.pairwise_cons.1 ha).2 (List.pairwise_cons.1 hb).2 (fun y hy => pa y (by simp [hy])) (fun y hy => pb y (by simp [hy])) fun k => ?_)
      have h3 := h k
      simp only [look] at h3; omega
theorem look_mem {l : List Ct} (ha : Asc l) {x : Ct} (hx : x ∈ l) : look l x.1 = x.2 := by
  induction l with
  | nil => cases hx
  | cons y l ih =>
    rcases List.mem_cons.1 hx with rfl | hx
    · exact look_head ha
    · have h1 := (List.pairwise_cons.1 ha).1 x hx
      simp only [look]
      rw [if_neg (kl_ne h1), ih (List.pairwise_cons.1 ha).2 hx]; omega
theorem look_le_tot {l : List Ct} (hp : Pos l) (k : ByteArray) : look l k ≤ tot l := by
  induction l with
  | nil => simp [look, tot]
  | cons x l ih =>
    have h1 := hp x (by simp)
    have h2 := ih (fun y hy => hp y (by simp [hy]))
    simp only [look, tot]; split <;> omega
theorem mem_le_tot {l : List Ct} (hp : Pos l) {x : Ct} (hx : x ∈ l) : x.2 ≤ tot l := by
  induction l with
  | nil => cases hx
  | cons y l ih =>
    have h1 := hp y (by simp)
    have h2 : Pos l := fun z hz => hp z (by simp [hz])
    simp only [tot]
    rcases List.mem_cons.1 hx with rfl | hx
    · have := tot_nonneg h2; omega
    · have := ih h2 hx; omega
/-- A key so many times more. -/
def ins : List Ct → ByteArray → Int → List Ct
  | [], k, n => [(k, n)]
  | x :: l, k, n => if x.1 = k then (x.1, x.2 + n) :: l else if kl k x.1 = true then (k, n) :: x :: l else x :: ins l k n
theorem ins_look (l : List Ct) (k : ByteArray) (n : Int) (q : ByteArray) : look (ins l k n) q = look l q + (if k = q then n else 0) := by
  induction l with
  | nil => simp [ins, look]
  | cons x l ih =>
    simp only [ins]
    split
    · rename_i h; subst h; simp only [look]; split <;> omega
    · split
      · simp only [look]; omega
      · simp only [look, ih]; omega
theorem ins_tot (l : List Ct) (k : ByteArray) (n : Int) : tot (ins l k n) = tot l + n := by
  induction l with
  | nil => simp [ins, tot]
  | cons x l ih =>
    simp only [ins]
    split
    · simp only [tot]; omega
    · split
      · simp only [tot]; omega
      · simp only [tot, ih]; omega
theorem ins_mem {l : List Ct} {k : ByteArray} {n : Int} {x : Ct} (h : x ∈ ins l k n) : x.1 = k ∨ ∃ y ∈ l, y.1 = x.1 := by
  induction l with
  | nil => simp [ins] at h; left; rw [h]
  | cons y l ih =>
    simp only [ins] at h
    split at h
    · rename_i e
      rcases List.mem_cons.1 h with rfl | h
      · exact .inl e
      · exact .inr ⟨x, by simp [h], rfl⟩
    · split at h
      · rcases List.mem_cons.1 h with rfl | h
        · exact .inl rfl
        · exact .inr ⟨x, h, rfl⟩
      · rcases List.mem_cons.1 h with rfl | h
        · exact .inr ⟨x, by simp, rfl⟩
        · rcases ih h with h | ⟨z, hz, e⟩
          · exact .inl h
          · exact .inr ⟨z, by simp [hz], e⟩
theorem ins_asc {l : List Ct} (ha : Asc l) (k : ByteArray) (n : Int) : Asc (ins l k n) := by
  induction l with
  | nil => simp [ins]
  | cons x l ih =>
    have h1 := List.pairwise_cons.1 ha
    simp only [ins]
    split
    · exact List.pairwise_cons.2 ⟨h1.1, h1.2⟩
    · rename_i hne
      split
      · rename_i hk
        refine List.pairwise_cons.2 ⟨fun y hy => ?_, ha⟩
        rcases List.mem_cons.1 hy with rfl | hy
        · exact hk
        · exact kl_trans hk (h1.1 y hy)
      · rename_i hk
        refine List.pairwise_cons.2 ⟨fun y hy => ?_, ih h1.2⟩
        have hx : kl x.1 k = true := by
          rcases kl_total x.1 k with h | h | h
          · exact h
          · exact absurd h hne
          · exact absurd h hk
        rcases ins_mem hy with h | ⟨z, hz, e⟩
        · rw [h]; exact hx
        · rw [← e]; exact h1.1 z hz
theorem ins_pos {l : List Ct} (hp : Pos l) (k : ByteArray) {n : Int} (hn : 0 < n) : Pos (ins l k n) := by
  induction l with
  | nil => intro x hx; simp [ins] at hx; subst hx; exact hn
  | cons x l ih =>
    have h1 := hp x (by simp)
    have h2 : Pos l := fun y hy => hp y (by simp [hy])
    simp only [ins]
    split
    · intro y hy
      rcases List.mem_cons.1 hy with rfl | hy
      · show 0 < x.2 + n; omega
      · exact h2 y hy
    · split
      · intro y hy
        rcases List.mem_cons.1 hy with rfl | hy
        · exact hn
        · exact hp y hy
      · intro y hy
        rcases List.mem_cons.1 hy with rfl | hy
        · exact h1
        · exact ih h2 y hy
theorem ins_len (l : List Ct) (k : ByteArray) (n : Int) : (ins l k n).length ≤ l.length + 1 := by
  induction l with
  | nil => simp [ins]
  | cons x l ih => simp only [ins]; split; · simp
                   split <;> simp <;> omega
theorem ins_has {l : List Ct} {k : ByteArray} {n : Int} (ha : Asc l) (h : ∃ x ∈ l, x.1 = k) : (ins l k n).length = l.length := by
  induction l with
  | nil => obtain ⟨x, hx, _⟩ := h; cases hx
  | cons x l ih =>
    simp only [ins]
    split
    · simp
    · rename_i hne
      obtain ⟨y, hy, e⟩ := h
      rcases List.mem_cons.1 hy with rfl | hy
      · exact absurd e hne
      · have h1 := (List.pairwise_cons.1 ha).1 y hy
        rw [e] at h1
        rw [if_neg (by rw [kl_asym h1]; simp)]
        simp [ih (List.pairwise_cons.1 ha).2 ⟨y, hy, e⟩]
theorem ins_new {l : List Ct} {k : ByteArray} {n : Int} (h : ∀ x ∈ l, x.1 ≠ k) : (ins l k n).length = l.length + 1 := by
  induction l with
  | nil => simp [ins]
  | cons x l ih =>
    simp only [ins]
    rw [if_neg (h x (by simp))]
    split
    · simp
    · simp [ih fun y hy => h y (by simp [hy])]
/-- The keys of both, each with what it has in both. -/
def tog (a b : List Ct) : List Ct := b.foldl (fun l c => ins l c.1 c.2) a
theorem tog_cons (a : List Ct) (x : Ct) (b : List Ct) : tog a (x :: b) = tog (ins a x.1 x.2) b := rfl
theorem tog_look (a b : List Ct) (k : ByteArray) : look (tog a b) k = look a k + look b k := by
  induction b generalizing a with
  | nil => simp [tog, look]
  | cons x b ih => rw [tog_cons, ih, ins_look]; simp only [look]; omega
theorem tog_tot (a b : List Ct) : tot (tog a b) = tot a + tot b := by
  induction b generalizing a with
  | nil => simp [tog, tot]
  | cons x b ih => rw [tog_cons, ih, ins_tot]; simp only [tot]; omega
theorem tog_asc {a : List Ct} (ha : Asc a) (b : List Ct) : Asc (tog a b) := by
  induction b generalizing a with
  | nil => exact ha
  | cons x b ih => exact ih (ins_asc ha _ _)
theorem tog_pos {a b : List Ct} (ha : Pos a) (hb : Pos b) : Pos (tog a b) := by
  induction b generalizing a with
  | nil => exact ha
  | cons x b ih => exact ih (ins_pos ha _ (hb x (by simp))) (fun y hy => hb y (by simp [hy]))
theorem tog_len (a b : List Ct) : (tog a b).length ≤ a.length + b.length := by
  induction b generalizing a with
  | nil => simp [tog]
  | cons x b ih => have h1 := ih (ins a x.1 x.2); have h2 := ins_len a x.1 x.2; rw [tog_cons]; simp; omega
theorem tog_mem {a b : List Ct} {x : Ct} (h : x ∈ tog a b) : (∃ y ∈ a, y.1 = x.1) ∨ ∃ y ∈ b, y.1 = x.1 := by
  induction b generalizing a with
  | nil => exact .inl ⟨x, h, rfl⟩
  | cons z b ih =>
    rcases ih h with ⟨y, hy, e⟩ | ⟨y, hy, e⟩
    · rcases ins_mem hy with h1 | ⟨u, hu, e2⟩
      · exact .inr ⟨z, by simp, h1.symm.trans e⟩
      · exact .inl ⟨u, hu, e2.trans e⟩
    · exact .inr ⟨y, by simp [hy], e⟩

/-- Numbers in order. -/
def srt (l : List Int) : List Int := l.mergeSort fun x y => decide (x ≤ y)
theorem srt_perm (l : List Int) : (srt l).Perm l := List.mergeSort_perm _ _
theorem srt_len (l : List Int) : (srt l).length = l.length := (srt_perm l).length_eq
theorem srt_sorted (l : List Int) : (srt l).Pairwise (· ≤ ·) := by
  have h := List.pairwise_mergeSort (le := fun x y : Int => decide (x ≤ y)) (fun a b c h1 h2 => by simp at *; omega) (fun a b => by simp; omega) l
  exact h.imp fun h => by simpa using h
/-- The greatest number that m of them have not less than. -/
def thr (l : List Ct) (m : Nat) : Int := (srt (l.map (·.2))).getD (l.length - m) 0
/-- Each has so much less. -/
def les (l : List Ct) (v : Int) : List Ct := (l.filter fun c => decide (v < c.2)).map fun c => (c.1, c.2 - v)
theorem countP_drop_ge {s : List Int} (hs : s.Pairwise (· ≤ ·)) {i : Nat} (hi : i < s.length) : s.length - i ≤ s.countP fun d => decide (s.getD i 0 ≤ d) := by
  have e : s = s.take i ++ s.drop i := (List.take_append_drop _ _).symm
  have h1 : (s.drop i).countP (fun d => decide (s.getD i 0 ≤ d)) = (s.drop i).length := by
    rw [List.countP_eq_length]
    intro x hx
    rw [List.drop_eq_getElem_cons hi] at hx
    have hg : s.getD i 0 = s[i] := by simp [List.getD_eq_getElem?_getD, hi]
    rw [hg, decide_eq_true_eq]
    rcases List.mem_cons.1 hx with rfl | hx
    · exact Int.le_refl _
    · have hd : (s.drop i).Pairwise (· ≤ ·) := hs.sublist (List.drop_sublist _ _)
      rw [List.drop_eq_getElem_cons hi] at hd
      exact (List.pairwise_cons.1 hd).1 x hx
  have h2 : s.countP (fun d => decide (s.getD i 0 ≤ d)) = (s.take i).countP (fun d => decide (s.getD i 0 ≤ d)) + (s.drop i).countP (fun d => decide (s.getD i 0 ≤ d)) := by
    rw [← List.countP_append, ← e]
  rw [h2, h1, List.length_drop]; omega
theorem countP_above {s : List Int} (hs : s.Pairwise (· ≤ ·)) {i : Nat} (hi : i < s.length) : s.countP (fun d => decide (s.getD i 0 < d)) ≤ s.length - (i + 1) := by
  have e : s = s.take (i + 1) ++ s.drop (i + 1) := (List.take_append_drop _ _).symm
  have hg : s.getD i 0 = s[i] := by simp [List.getD_eq_getElem?_getD, hi]
  have h1 : (s.take (i + 1)).countP (fun d => decide (s.getD i 0 < d)) = 0 := by
    rw [List.countP_eq_zero]
    intro x hx
    rw [hg, decide_eq_true_eq]
    rw [List.take_add_one, List.getElem?_eq_getElem hi] at hx
    rcases List.mem_append.1 hx with hx | hx
    · have hd : (s.take (i + 1)).Pairwise (· ≤ ·) := hs.sublist (List.take_sublist _ _)
      rw [List.take_add_one, List.getElem?_eq_getElem hi, List.pairwise_append] at hd
      have := hd.2.2 x hx s[i] (by simp)
      omega
    · simp at hx; omega
  have h2 : s.countP (fun d => decide (s.getD i 0 < d)) = (s.take (i + 1)).countP (fun d => decide (s.getD i 0 < d)) + (s.drop (i + 1)).countP (fun d => decide (s.getD i 0 < d)) := by
    rw [← List.countP_append, ← e]
  have h3 : (s.drop (i + 1)).countP (fun d => decide (s.getD i 0 < d)) ≤ (s.drop (i + 1)).length := List.countP_le_length
  rw [List.length_drop] at h3
  omega
/-- How many have not less than v; how many have more. -/
def many (l : List Ct) (v : Int) : Nat := l.countP fun c => decide (v ≤ c.2)
def more (l : List Ct) (v : Int) : Nat := l.countP fun c => decide (v < c.2)
theorem thr_many {l : List Ct} {m : Nat} (h1 : 1 ≤ m) (h2 : m ≤ l.length) : m ≤ many l (thr l m) := by
  have hi : l.length - m < (srt (l.map (·.2))).length := by rw [srt_len]; simp; omega
  have h := countP_drop_ge (srt_sorted _) hi
  rw [(srt_perm _).countP_eq, List.countP_map, srt_len, List.length_map] at h
  unfold many thr
  have e : (fun c : Ct => decide ((srt (l.map (·.2))).getD (l.length - m) 0 ≤ c.2)) = ((fun d => decide ((srt (l.map (·.2))).getD (l.length - m) 0 ≤ d)) ∘ fun x : Ct => x.2) := rfl
  rw [e]; omega
theorem thr_more {l : List Ct} {m : Nat} (h1 : 1 ≤ m) (h2 : m ≤ l.length) : more l (thr l m) < m := by
  have hi : l.length - m < (srt (l.map (·.2))).length := by rw [srt_len]; simp; omega
  have h := countP_above (srt_sorted _) hi
  rw [(srt_perm _).countP_eq, List.countP_map, srt_len, List.length_map] at h
  unfold more thr
  have e : (fun c : Ct => decide ((srt (l.map (·.2))).getD (l.length - m) 0 < c.2)) = ((fun d => decide ((srt (l.map (·.2))).getD (l.length - m) 0 < d)) ∘ fun x : Ct => x.2) := rfl
  rw [e]; omega
theorem thr_mem {l : List Ct} {m : Nat} (h1 : 1 ≤ m) (h2 : m ≤ l.length) : ∃ c ∈ l, c.2 = thr l m := by
  have hi : l.length - m < (srt (l.map (·.2))).length := by rw [srt_len]; simp; omega
  have h : (srt (l.map (·.2)))[l.length - m] ∈ l.map (·.2) := (srt_perm _).mem_iff.1 (List.getElem_mem hi)
  obtain ⟨c, hc, e⟩ := List.mem_map.1 h
  exact ⟨c, hc, by rw [e]; unfold thr; simp [List.getD_eq_getElem?_getD, hi]⟩
/-- Who has more than it is not had by so many. -/
theorem thr_top {l : List Ct} {m : Nat} (h1 : 1 ≤ m) (h2 : m ≤ l.length) {c : Int} (h : m ≤ many l c) : c ≤ thr l m := by
  rcases Int.lt_or_le (thr l m) c with hc | hc
  · have h3 := thr_more h1 h2
    have h4 : many l c ≤ more l (thr l m) := List.countP_mono_left fun x _ hx => by simp at hx ⊢; omega
    omega
  · exact hc
theorem les_len (l : List Ct) (v : Int) : (les l v).length = more l v := by unfold les more; rw [List.length_map, List.countP_eq_length_filter]
theorem les_asc {l : List Ct} (ha : Asc l) (v : Int) : Asc (les l v) := by
  unfold les Asc
  rw [List.pairwise_map]
  exact ha.sublist List.filter_sublist
theorem les_pos (l : List Ct) (v : Int) : Pos (les l v) := by
  intro x hx
  obtain ⟨c, hc, rfl⟩ := List.mem_map.1 hx
  have := (List.mem_filter.1 hc).2
  simp at this
  show 0 < c.2 - v; omega
theorem les_mem {l : List Ct} {v : Int} {x : Ct} (h : x ∈ les l v) : ∃ y ∈ l, y.1 = x.1 := by
  obtain ⟨c, hc, rfl⟩ := List.mem_map.1 h
  exact ⟨c, (List.mem_filter.1 hc).1, rfl⟩
theorem les_cons (x : Ct) (l : List Ct) (v : Int) : les (x :: l) v = if v < x.2 then (x.1, x.2 - v) :: les l v else les l v := by
  unfold les
  rw [List.filter_cons]
  by_cases h : v < x.2 <;> simp [h]
theorem les_look {l : List Ct} (ha : Asc l) (hp : Pos l) {v : Int} (hv : 0 ≤ v) (k : ByteArray) : look (les l v) k ≤ look l k ∧ look l k ≤ look (les l v) k + v := by
  induction l with
  | nil => simp [les, look, hv]
  | cons x l ih =>
    obtain ⟨h1, h2⟩ := List.pairwise_cons.1 ha
    obtain ⟨i1, i2⟩ := ih h2 (fun y hy => hp y (by simp [hy]))
    have px := hp x (by simp)
    rw [les_cons]
    by_cases hk : x.1 = k
    · have z1 : look l k = 0 := look_none fun y hy => by subst hk; exact (kl_ne (h1 y hy)).symm
      have z2 : look (les l v) k = 0 := look_none fun y hy => by obtain ⟨c, hc, e⟩ := les_mem hy; subst hk; rw [← e]; exact (kl_ne (h1 c hc)).symm
      split <;> simp only [look, hk, if_true] <;> omega
    · split <;> simp only [look, if_neg hk] <;> omega
theorem les_tot {l : List Ct} (hp : Pos l) {v : Int} (hv : 0 ≤ v) : tot (les l v) + (many l v : Nat) * v ≤ tot l := by
  induction l with
  | nil => simp [les, tot, many]
  | cons x l ih =>
    have i := ih (fun y hy => hp y (by simp [hy]))
    have px := hp x (by simp)
    rw [les_cons]
    have em : many (x :: l) v = many l v + (if v ≤ x.2 then 1 else 0) := by unfold many; rw [List.countP_cons]; simp
    rw [em]
    by_cases h1 : v < x.2
    · rw [if_pos h1, if_pos (by omega)]
      simp only [tot]
      have : ((many l v + 1 : Nat) : Int) * v = (many l v : Nat) * v + v := by rw [Int.natCast_add, Int.add_mul]; simp
      rw [this]; omega
    · rw [if_neg h1]
      by_cases h2 : v ≤ x.2
      · rw [if_pos h2]
        simp only [tot]
        have : ((many l v + 1 : Nat) : Int) * v = (many l v : Nat) * v + v := by rw [Int.natCast_add, Int.add_mul]; simp
        rw [this]; omega
      · rw [if_neg h2]
        simp only [tot]
        rw [Nat.add_zero]; omega
end P
end Go.Proofs.Ytcaidfffmllfeaa
