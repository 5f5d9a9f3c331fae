/- Plain: samples by rising times: how two lists are merged, what lies between two times, and the laws of both. -/
import Derived.Test.YtbnolckcjimhdaaKit
namespace Go.Proofs.Ytbnolckcjimhdaa
namespace P
/-- Samples by rising times. -/
def Ris (l : List (Int × Int)) : Prop := l.Pairwise fun x y => x.1 < y.1
theorem Ris.tail {s : Int × Int} {l : List (Int × Int)} (h : Ris (s :: l)) : Ris l := (List.pairwise_cons.1 h).2
theorem Ris.head {s : Int × Int} {l : List (Int × Int)} (h : Ris (s :: l)) : ∀ r ∈ l, s.1 < r.1 := (List.pairwise_cons.1 h).1
/-- Samples of 64 bits. -/
def I64s (l : List (Int × Int)) : Prop := ∀ s ∈ l, (-9223372036854775808 ≤ s.1 ∧ s.1 ≤ 9223372036854775807) ∧ (-9223372036854775808 ≤ s.2 ∧ s.2 ≤ 9223372036854775807)
theorem I64s.at {l : List (Int × Int)} (h : I64s l) (j : Nat) : (-9223372036854775808 ≤ (l.getD j (0, 0)).1 ∧ (l.getD j (0, 0)).1 ≤ 9223372036854775807) ∧ (-9223372036854775808 ≤ (l.getD j (0, 0)).2 ∧ (l.getD j (0, 0)).2 ≤ 9223372036854775807) := by
  by_cases hj : j < l.length
  · have := h l[j] (List.getElem_mem hj)
    simpa [List.getD_eq_getElem?_getD, List.getElem?_eq_getElem hj] using this
  · simp [List.getD_eq_getElem?_getD, List.getElem?_eq_none (Nat.le_of_not_lt hj)]
theorem ris_at {l : List (Int × Int)} (h : Ris l) {i j : Nat} (hij : i < j) (hj : j < l.length) : (l.getD i (0, 0)).1 < (l.getD j (0, 0)).1 := by
  have := List.pairwise_iff_getElem.1 h i j (by omega) hj hij
  simpa [List.getD_eq_getElem?_getD, List.getElem?_eq_getElem hj, List.getElem?_eq_getElem (show i < l.length by omega)] using this
/-- Samples are by rising times, when each is above the one ahead of it. -/
theorem ris_of_steps (l : List (Int × Int)) (h : ∀ i, i + 1 < l.length → (l.getD i (0, 0)).1 < (l.getD (i + 1) (0, 0)).1) : Ris l := by
  have step : ∀ d i, i + d + 1 < l.length → (l.getD i (0, 0)).1 < (l.getD (i + d + 1) (0, 0)).1 := by
    intro d
    induction d with
    | zero => intro i hi; exact h i hi
    | succ d ih => intro i hi; have h1 := ih i (by omega); have h2 := h (i + d + 1) (by omega); rw [show i + (d + 1) + 1 = i + d + 1 + 1 by omega]; omega
  refine List.pairwise_iff_getElem.2 fun i j hi hj hij => ?_
  have := step (j - i - 1) i (by omega)
  rw [show i + (j - i - 1) + 1 = j by omega] at this
  simpa [List.getD_eq_getElem?_getD, List.getElem?_eq_getElem hj, List.getElem?_eq_getElem hi] using this
/-- What Check answers. -/
def chk (l : List (Int × Int)) : Int := if 1000 < l.length then 2 else if l.all (fun _ => true) && decide (∀ i, i < l.length → i + 1 < l.length → (l.getD i (0, 0)).1 < (l.getD (i + 1) (0, 0)).1) then 0 else 5
theorem chk_large {l : List (Int × Int)} (h : 1000 < l.length) : chk l = 2 := by unfold chk; rw [if_pos h]
theorem chk_zero {l : List (Int × Int)} (h : chk l = 0) : l.length ≤ 1000 ∧ Ris l := by
  unfold chk at h
  split at h
  · omega
  · split at h
    · rename_i h1 h2
      simp at h2
      exact ⟨by omega, ris_of_steps l fun i hi => by have := h2 i (by omega) hi; simpa [List.getD_eq_getElem?_getD] using this⟩
    · omega
theorem chk_ok {l : List (Int × Int)} (h : l.length ≤ 1000) (hr : Ris l) : chk l = 0 := by
  unfold chk
  rw [if_neg (by omega), if_pos]
  simp
  intro i _ hi
  have := ris_at hr (show i < i + 1 by omega) hi
  simpa [List.getD_eq_getElem?_getD] using this
theorem chk_order {l : List (Int × Int)} (h : l.length ≤ 1000) {i : Nat} (hi : i + 1 < l.length) (hle : (l.getD (i + 1) (0, 0)).1 ≤ (l.getD i (0, 0)).1) : chk l = 5 := by
  unfold chk
  rw [if_neg (by omega), if_neg]
  simp
  exact ⟨i, by omega, hi, by simpa [List.getD_eq_getElem?_getD] using hle⟩
theorem chk_cases (l : List (Int × Int)) : chk l = 0 ∨ chk l = 2 ∨ chk l = 5 := by
  unfold chk; split
  · simp
  · split <;> simp
/-- Both lists as one: of one time the greater measure. -/
def mrg : List (Int × Int) → List (Int × Int) → List (Int × Int)
  | [], b => b
  | s :: a, [] => s :: a
  | s :: a, r :: b => if s.1 < r.1 then s :: mrg a (r :: b) else if r.1 < s.1 then r :: mrg (s :: a) b else (s.1, max s.2 r.2) :: mrg a b
termination_by a b => a.length + b.length
theorem mrg_nil (a : List (Int × Int)) : mrg a [] = a := by cases a <;> simp [mrg]
theorem mrg_nil' (b : List (Int × Int)) : mrg [] b = b := by simp [mrg]
theorem mrg_lt {s r : Int × Int} (a b : List (Int × Int)) (h : s.1 < r.1) : mrg (s :: a) (r :: b) = s :: mrg a (r :: b) := by rw [mrg, if_pos h]
theorem mrg_gt {s r : Int × Int} (a b : List (Int × Int)) (h : r.1 < s.1) : mrg (s :: a) (r :: b) = r :: mrg (s :: a) b := by rw [mrg, if_neg (by omega), if_pos h]
theorem mrg_eq {s r : Int × Int} (a b : List (Int × Int)) (h : s.1 = r.1) : mrg (s :: a) (r :: b) = (s.1, max s.2 r.2) :: mrg a b := by rw [mrg, if_neg (by omega), if_neg (by omega)]
theorem mrg_ind {M : List (Int × Int) → List (Int × Int) → Prop} (h1 : ∀ b, M [] b) (h2 : ∀ a, M a []) (h3 : ∀ s a r b, s.1 < r.1 → M a (r :: b) → M (s :: a) (r :: b)) (h4 : ∀ s a r b, r.1 < s.1 → M (s :: a) b → M (s :: a) (r :: b)) (h5 : ∀ s a r b, s.1 = r.1 → M a b → M (s :: a) (r :: b)) : ∀ a b, M a b := by
  have go : ∀ n a b, List.length a + List.length b ≤ n → M a b := by
    intro n
    induction n with
    | zero => intro a b h; cases a with
      | nil => exact h1 b
      | cons s a => simp at h
    | succ n ih =>
      intro a b h
      match a, b with
      | [], b => exact h1 b
      | a, [] => exact h2 a
      | s :: a, r :: b =>
        simp at h
        rcases Int.lt_trichotomy s.1 r.1 with hlt | heq | hgt
        · exact h3 s a r b hlt (ih _ _ (by simp; omega))
        · exact h5 s a r b heq (ih _ _ (by omega))
        · exact h4 s a r b hgt (ih _ _ (by simp; omega))
  exact fun a b => go _ a b (Nat.le_refl _)
theorem mrg_length : ∀ a b, (mrg a b).length ≤ a.length + b.length := by
  refine mrg_ind (fun b => by simp [mrg_nil']) (fun a => by simp [mrg_nil]) (fun s a r b h ih => ?_) (fun s a r b h ih => ?_) (fun s a r b h ih => ?_)
  · rw [mrg_lt _ _ h]; simp at ih ⊢; omega
  · rw [mrg_gt _ _ h]; simp at ih ⊢; omega
  · rw [mrg_eq _ _ h]; simp at ih ⊢; omega
theorem mrg_times : ∀ a b, ∀ x ∈ mrg a b, (∃ y ∈ a, y.1 = x.1) ∨ ∃ y ∈ b, y.1 = x.1 := by
  refine mrg_ind (fun b => ?_) (fun a => ?_) (fun s a r b h ih => ?_) (fun s a r b h ih => ?_) (fun s a r b h ih => ?_)
  · rw [mrg_nil']; exact fun x hx => .inr ⟨x, hx, rfl⟩
  · rw [mrg_nil]; exact fun x hx => .inl ⟨x, hx, rfl⟩
  · rw [mrg_lt _ _ h]; intro x hx
    rcases List.mem_cons.1 hx with rfl | hx
    · exact .inl ⟨_, List.mem_cons_self, rfl⟩
    · rcases ih x hx with ⟨y, hy, e⟩ | ⟨y, hy, e⟩
      · exact .inl ⟨y, List.mem_cons_of_mem _ hy, e⟩
      · exact .inr ⟨y, hy, e⟩
  · rw [mrg_gt _ _ h]; intro x hx
    rcases List.mem_cons.1 hx with rfl | hx
    · exact .inr ⟨_, List.mem_cons_self, rfl⟩
    · rcases ih x hx with ⟨y, hy, e⟩ | ⟨y, hy, e⟩
      · exact .inl ⟨y, hy, e⟩
      · exact .inr ⟨y, List.mem_cons_of_mem _ hy, e⟩
  · rw [mrg_eq _ _ h]; intro x hx
    rcases List.mem_cons.1 hx with rfl | hx
    · exact .inl ⟨_, List.mem_cons_self, rfl⟩
    · rcases ih x hx with ⟨y, hy, e⟩ | ⟨y, hy, e⟩
      · exact .inl ⟨y, List.mem_cons_of_mem _ hy, e⟩
      · exact .inr ⟨y, List.mem_cons_of_mem _ hy, e⟩
theorem mrg_ris : ∀ a b, Ris a → Ris b → Ris (mrg a b) := by
  refine mrg_ind (fun b _ hb => by rw [mrg_nil']; exact hb) (fun a ha _ => by rw [mrg_nil]; exact ha) (fun s a r b h ih ha hb => ?_) (fun s a r b h ih ha hb => ?_) (fun s a r b h ih ha hb => ?_)
  · rw [mrg_lt _ _ h]
    refine List.pairwise_cons.2 ⟨fun x hx => ?_, ih ha.tail hb⟩
    rcases mrg_times _ _ x hx with ⟨y, hy, e⟩ | ⟨y, hy, e⟩
    · rw [← e]; exact ha.head y hy
    · rcases List.mem_cons.1 hy with rfl | hy
      · omega
      · have := hb.head y hy; omega
  · rw [mrg_gt _ _ h]
    refine List.pairwise_cons.2 ⟨fun x hx => ?_, ih ha hb.tail⟩
    rcases mrg_times _ _ x hx with ⟨y, hy, e⟩ | ⟨y, hy, e⟩
    · rcases List.mem_cons.1 hy with rfl | hy
      · omega
      · have := ha.head y hy; omega
    · rw [← e]; exact hb.head y hy
  · rw [mrg_eq _ _ h]
    refine List.pairwise_cons.2 ⟨fun x hx => ?_, ih ha.tail hb.tail⟩
    rcases mrg_times _ _ x hx with ⟨y, hy, e⟩ | ⟨y, hy, e⟩
    · have := ha.head y hy; simp; omega
    · have := hb.head y hy; simp; omega
theorem mrg_i64 : ∀ a b, I64s a → I64s b → I64s (mrg a b) := by
  have tl : ∀ {s : Int × Int} {l : List (Int × Int)}, I64s (s :: l) → I64s l := fun h x hx => h x (List.mem_cons_of_mem _ hx)
  refine mrg_ind (fun b _ hb => by rw [mrg_nil']; exact hb) (fun a ha _ => by rw [mrg_nil]; exact ha) (fun s a r b h ih ha hb => ?_) (fun s a r b h ih ha hb => ?_) (fun s a r b h ih ha hb => ?_)
  · rw [mrg_lt _ _ h]; intro x hx
    rcases List.mem_cons.1 hx with rfl | hx
    · exact ha _ List.mem_cons_self
    · exact ih (tl ha) hb x hx
  · rw [mrg_gt _ _ h]; intro x hx
    rcases List.mem_cons.1 hx with rfl | hx
    · exact hb _ List.mem_cons_self
    · exact ih ha (tl hb) x hx
  · rw [mrg_eq _ _ h]; intro x hx
    rcases List.mem_cons.1 hx with rfl | hx
    · have h1 := ha _ List.mem_cons_self
      have h2 := hb _ List.mem_cons_self
      simp only; omega
    · exact ih (tl ha) (tl hb) x hx
/-- The measure of a time. -/
def look : List (Int × Int) → Int → Option Int
  | [], _ => none
  | s :: l, t => if s.1 = t then some s.2 else look l t
def omx : Option Int → Option Int → Option Int
  | none, y => y
  | x, none => x
  | some x, some y => some (max x y)
theorem omx_none (x : Option Int) : omx x none = x := by cases x <;> rfl
theorem omx_comm (x y : Option Int) : omx x y = omx y x := by cases x <;> cases y <;> simp [omx, Int.max_comm]
theorem omx_assoc (x y z : Option Int) : omx (omx x y) z = omx x (omx y z) := by cases x <;> cases y <;> cases z <;> simp [omx, Int.max_assoc]
theorem omx_again (x y : Option Int) : omx (omx x y) y = omx x y := by
  cases x <;> cases y <;> simp [omx]
theorem look_above {l : List (Int × Int)} {t : Int} (h : ∀ r ∈ l, t < r.1) : look l t = none := by
  induction l with
  | nil => rfl
  | cons s l ih =>
    have := h s List.mem_cons_self
    simp only [look]
    rw [if_neg (by omega)]
    exact ih fun r hr => h r (List.mem_cons_of_mem _ hr)
theorem look_mem {l : List (Int × Int)} {t v : Int} (h : look l t = some v) : (t, v) ∈ l := by
  induction l with
  | nil => simp [look] at h
  | cons s l ih =>
    simp only [look] at h
    split at h
    · rename_i e
      simp at h
      subst e h
      exact List.mem_cons_self
    · exact List.mem_cons_of_mem _ (ih h)
theorem mem_look {l : List (Int × Int)} (hr : Ris l) {s : Int × Int} (h : s ∈ l) : look l s.1 = some s.2 := by
  induction l with
  | nil => cases h
  | cons r l ih =>
    simp only [look]
    rcases List.mem_cons.1 h with rfl | h
    · simp
    · have := hr.head s h
      rw [if_neg (by omega)]
      exact ih hr.tail h
theorem look_mrg (t : Int) : ∀ a b, Ris a → Ris b → look (mrg a b) t = omx (look a t) (look b t) := by
  refine mrg_ind (fun b _ _ => by rw [mrg_nil']; rfl) (fun a _ _ => by rw [mrg_nil]; exact (omx_none _).symm) (fun s a r b h ih ha hb => ?_) (fun s a r b h ih ha hb => ?_) (fun s a r b h ih ha hb => ?_)
  · rw [mrg_lt _ _ h]
    by_cases e : s.1 = t
    · have h1 : look (r :: b) t = none := look_above fun x hx => by
        rcases List.mem_cons.1 hx with rfl | hx
        · omega
        · have := hb.head x hx; omega
      rw [h1, omx_none]; simp [look, e]
    · simp only [look, if_neg e] at ih ⊢
      exact ih ha.tail hb
  · rw [mrg_gt _ _ h]
    by_cases e : r.1 = t
    · have h1 : look (s :: a) t = none := look_above fun x hx => by
        rcases List.mem_cons.1 hx with rfl | hx
        · omega
        · have := ha.head x hx; omega
      rw [h1]; simp [look, e, omx]
    · simp only [look, if_neg e] at ih ⊢
      exact ih ha hb.tail
  · rw [mrg_eq _ _ h]
    by_cases e : s.1 = t
    · simp [look, e, ← h, omx]
    · have e2 : ¬ r.1 = t := by omega
      simp only [look, if_neg e, if_neg e2] at ih ⊢
      exact ih ha.tail hb.tail
theorem look_ext {a b : List (Int × Int)} (ha : Ris a) (hb : Ris b) (h : ∀ t, look a t = look b t) : a = b := by
  induction a generalizing b with
  | nil =>
    cases b with
    | nil => rfl
    | cons r b => have := h r.1; simp [look] at this
  | cons s a ih =>
    cases b with
    | nil => have := h s.1; simp [look] at this
    | cons r b =>
      have key : ∀ {x y : Int × Int} {l m : List (Int × Int)}, Ris (y :: m) → (∀ t, look (x :: l) t = look (y :: m) t) → y.1 ≤ x.1 := by
        intro x y l m hm hh
        have h1 := hh x.1
        simp only [look, if_pos] at h1
        by_cases e : y.1 = x.1
        · omega
        · rw [if_neg e] at h1
          have := hm.head _ (look_mem h1.symm)
          simp at this; omega
      have h1 := key hb h
      have h2 := key ha fun t => (h t).symm
      have e : s.1 = r.1 := by omega
      have e2 : s.2 = r.2 := by have := h s.1; simpa [look, e] using this
      have es : s = r := Prod.ext e e2
      subst es
      rw [ih ha.tail hb.tail fun t => ?_]
      by_cases et : s.1 = t
      · rw [look_above (fun x hx => by have := ha.head x hx; omega), look_above (fun x hx => by have := hb.head x hx; omega)]
      · have := h t
        simpa only [look, if_neg et] using this
theorem mrg_comm {a b : List (Int × Int)} (ha : Ris a) (hb : Ris b) : mrg a b = mrg b a :=
  look_ext (mrg_ris _ _ ha hb) (mrg_ris _ _ hb ha) fun t => by rw [look_mrg t _ _ ha hb, look_mrg t _ _ hb ha, omx_comm]
theorem mrg_again {a b : List (Int × Int)} (ha : Ris a) (hb : Ris b) : mrg (mrg a b) b = mrg a b :=
  look_ext (mrg_ris _ _ (mrg_ris _ _ ha hb) hb) (mrg_ris _ _ ha hb) fun t => by rw [look_mrg t _ _ (mrg_ris _ _ ha hb) hb, look_mrg t _ _ ha hb, omx_again]
theorem mrg_assoc {a b c : List (Int × Int)} (ha : Ris a) (hb : Ris b) (hc : Ris c) : mrg (mrg a b) c = mrg a (mrg b c) :=
  look_ext (mrg_ris _ _ (mrg_ris _ _ ha hb) hc) (mrg_ris _ _ ha (mrg_ris _ _ hb hc)) fun t => by
    rw [look_mrg t _ _ (mrg_ris _ _ ha hb) hc, look_mrg t _ _ ha hb, look_mrg t _ _ ha (mrg_ris _ _ hb hc), look_mrg t _ _ hb hc, omx_assoc]
/-- Samples from a time on, ahead of another one. -/
def btw (l : List (Int × Int)) (f t : Int) : List (Int × Int) := l.filter fun s => decide (f ≤ s.1) && decide (s.1 < t)
/-- The place of the first sample that is not below t. -/
def IsFrom (l : List (Int × Int)) (t : Int) (k : Nat) : Prop := k ≤ l.length ∧ (∀ j, j < k → (l.getD j (0, 0)).1 < t) ∧ ∀ j, k ≤ j → j < l.length → t ≤ (l.getD j (0, 0)).1
theorem filter_below {l : List (Int × Int)} {t : Int} {k : Nat} (h : IsFrom l t k) : l.filter (fun s => decide (s.1 < t)) = l.take k := by
  obtain ⟨h1, h2, h3⟩ := h
  conv => lhs; rw [← List.take_append_drop k l]
  rw [List.filter_append, List.filter_eq_self.2, List.filter_eq_nil_iff.2, List.append_nil]
  · intro s hs
    obtain ⟨j, hj, rfl⟩ := List.mem_iff_getElem.1 hs
    simp at hj
    have := h3 (k + j) (by omega) (by omega)
    simp [List.getD_eq_getElem?_getD, List.getElem?_eq_getElem (show k + j < l.length by omega)] at this
    simp; omega
  · intro s hs
    obtain ⟨j, hj, rfl⟩ := List.mem_iff_getElem.1 hs
    simp at hj
    have := h2 j (by omega)
    simp [List.getD_eq_getElem?_getD, List.getElem?_eq_getElem (show j < l.length by omega)] at this
    simp; omega
theorem IsFrom.drop {l : List (Int × Int)} {t : Int} {b k : Nat} (h : IsFrom l t k) (hb : b ≤ l.length) : IsFrom (l.drop b) t (max b k - b) := by
  obtain ⟨h1, h2, h3⟩ := h
  have e : ∀ j, (l.drop b).getD j (0, 0) = l.getD (b + j) (0, 0) := fun j => by simp [List.getD_eq_getElem?_getD]
  refine ⟨by simp; omega, fun j hj => ?_, fun j hj hl => ?_⟩
  · rw [e]; exact h2 _ (by omega)
  · rw [e]; simp at hl; exact h3 _ (by omega) (by omega)
theorem btw_eq {l : List (Int × Int)} {f t : Int} {b k : Nat} (hb : IsFrom l f b) (hk : IsFrom l t k) : btw l f t = (l.drop b).take (max b k - b) := by
  rw [← filter_below (hk.drop hb.1)]
  unfold btw
  conv => lhs; rw [← List.take_append_drop b l]
  rw [List.filter_append]
  have e1 : (l.take b).filter (fun s => decide (f ≤ s.1) && decide (s.1 < t)) = [] := by
    rw [List.filter_eq_nil_iff]
    intro s hs
    obtain ⟨j, hj, rfl⟩ := List.mem_iff_getElem.1 hs
    simp at hj
    have := hb.2.1 j (by omega)
    simp [List.getD_eq_getElem?_getD, List.getElem?_eq_getElem (show j < l.length by omega)] at this
    simp; omega
  rw [e1, List.nil_append]
  apply List.filter_congr
  intro s hs
  obtain ⟨j, hj, rfl⟩ := List.mem_iff_getElem.1 hs
  simp at hj
  have := hb.2.2 (b + j) (by omega) (by omega)
  simp [List.getD_eq_getElem?_getD, List.getElem?_eq_getElem (show b + j < l.length by omega)] at this
  simp [this]
theorem btw_ris {l : List (Int × Int)} (h : Ris l) (f t : Int) : Ris (btw l f t) := h.filter _
theorem btw_i64 {l : List (Int × Int)} (h : I64s l) (f t : Int) : I64s (btw l f t) := fun s hs => h s (List.mem_filter.1 hs).1
theorem btw_length (l : List (Int × Int)) (f t : Int) : (btw l f t).length ≤ l.length := List.length_filter_le _ _
theorem filter_parts {l : List (Int × Int)} (h : Ris l) {a b c : Int} (hab : a ≤ b) (hbc : b ≤ c) : btw l a c = btw l a b ++ btw l b c := by
  induction l with
  | nil => rfl
  | cons s l ih =>
    have ih := ih h.tail
    unfold btw at *
    by_cases h1 : s.1 < b
    · by_cases h2 : a ≤ s.1
      · rw [List.filter_cons_of_pos (by simp; omega), List.filter_cons_of_pos (by simp; omega), List.filter_cons_of_neg (by simp; omega), ih, List.cons_append]
      · rw [List.filter_cons_of_neg (by simp; omega), List.filter_cons_of_neg (by simp; omega), List.filter_cons_of_neg (by simp; omega), ih]
    · have e : (s :: l).filter (fun s => decide (a ≤ s.1) && decide (s.1 < b)) = [] := by
        rw [List.filter_eq_nil_iff]
        intro x hx
        rcases List.mem_cons.1 hx with rfl | hx
        · simp; omega
        · have := h.head x hx
          simp; omega
      rw [e, List.nil_append]
      apply List.filter_congr
      intro x hx
      have hb : b ≤ x.1 := by
        rcases List.mem_cons.1 hx with rfl | hx
        · omega
        · have := h.head x hx; omega
      have : a ≤ x.1 := by omega
      simp [hb, this]
/-- What lies at one time. -/
theorem btw_one {l : List (Int × Int)} (h : Ris l) (t : Int) : btw l t (t + 1) = match look l t with | none => [] | some v => [(t, v)] := by
  induction l with
  | nil => rfl
  | cons s l ih =>
    have ih := ih h.tail
    unfold btw at *
    simp only [look]
    by_cases e : s.1 = t
    · rw [List.filter_cons_of_pos (by simp; omega), ih, if_pos e, look_above (fun r hr => by have := h.head r hr; omega)]
      simp [← e]
    · rw [List.filter_cons_of_neg (by simp; omega), if_neg e, ih]
end P
end Go.Proofs.Ytbnolckcjimhdaa
