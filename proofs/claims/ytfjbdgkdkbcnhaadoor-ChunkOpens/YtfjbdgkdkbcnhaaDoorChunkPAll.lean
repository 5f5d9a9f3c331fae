/- Several texts in one. -/
import Derived.Test.YtfjbdgkdkbcnhaaDoorPlainAll
import Derived.Deep.SlicePairs
import Derived.Deep.QuietTactic
import Derived.BigQuiet
import Derived.Deep.RegionHeld3
import Derived.Deep.DeepCutAuto
import Derived.Deep.OwnRows
import Derived.Deep.RegionLaw
/- Plain: samples by rising times: how two lists are merged, what lies between two times, and the laws of both. -/
namespace Go.Proofs.YtfjbdgkdkbcnhaaDoor
namespace P
/-- Samples by rising times. -/
def Ris (l : List (Int × Int)) : Prop := l.Pairwise fun x y => x.1 < y.1
theorem Ris.tail {s : Int × Int} {l : List (Int × Int)} (h : Ris (s :: l)) : Ris l := (List.pairwise_cons.1 h).2
theorem Ris.head {s : Int × Int} {l : List (Int × Int)} (h : Ris (s :: l)) : ∀ r ∈ l, s.1 < r.1 := (List.pairwise_cons.1 h).1
/-- Samples of 64 bits. -/
def I64s (l : List (Int × Int)) : Prop := ∀ s ∈ l, (-9223372036854775808 ≤ s.1 ∧ s.1 ≤ 9223372036854775807) ∧ (-9223372036854775808 ≤ s.2 ∧ s.2 ≤ 9223372036854775807)
theorem I64s.at {l : List (Int × Int)} (h : I64s l) (j : Nat) : (-9223372036854775808 ≤ (l.getD j (0, 0)).1 ∧ (l.getD j (0, 0)).1 ≤ 9223372036854775807) ∧ (-9223372036854775808 ≤ (l.getD j (0, 0)).2 ∧ (l.getD j (0, 0)).2 ≤ 9223372036854775807) := by
  by_cases hj : j < l.length
  · have := h l[j] (List.getElem_mem hj)
    simpa [List.getD_eq_getElem?_getD, List.getElem?_eq_getElem hj] using this
  · simp [List.getD_eq_getElem?_getD, List.getElem?_eq_none (Nat.le_of_not_lt hj)]
theorem ris_at {l : List (Int × Int)} (h : Ris l) {i j : Nat} (hij : i < j) (hj : j < l.length) : (l.getD i (0, 0)).1 < (l.getD j (0, 0)).1 := by
  have := List.pairwise_iff_getElem.1 h i j (by omega) hj hij
  simpa [List.getD_eq_getElem?_getD, List.getElem?_eq_getElem hj, List.getElem?_eq_getElem (show i < l.length by omega)] using this
/-- Samples are by rising times, when each is above the one ahead of it. -/
theorem ris_of_steps (l : List (Int × Int)) (h : ∀ i, i + 1 < l.length → (l.getD i (0, 0)).1 < (l.getD (i + 1) (0, 0)).1) : Ris l := by
  have step : ∀ d i, i + d + 1 < l.length → (l.getD i (0, 0)).1 < (l.getD (i + d + 1) (0, 0)).1 := by
    intro d
    induction d with
    | zero => intro i hi; exact h i hi
    | succ d ih => intro i hi; have h1 := ih i (by omega); have h2 := h (i + d + 1) (by omega); rw [show i + (d + 1) + 1 = i + d + 1 + 1 by omega]; omega
  refine List.pairwise_iff_getElem.2 fun i j hi hj hij => ?_
  have := step (j - i - 1) i (by omega)
  rw [show i + (j - i - 1) + 1 = j by omega] at this
  simpa [List.getD_eq_getElem?_getD, List.getElem?_eq_getElem hj, List.getElem?_eq_getElem hi] using this
/-- What Check answers. -/
def chk (l : List (Int × Int)) : Int := if 1000 < l.length then 2 else if l.all (fun _ => true) && decide (∀ i, i < l.length → i + 1 < l.length → (l.getD i (0, 0)).1 < (l.getD (i + 1) (0, 0)).1) then 0 else 5
theorem chk_large {l : List (Int × Int)} (h : 1000 < l.length) : chk l = 2 := by unfold chk; rw [if_pos h]
theorem chk_zero {l : List (Int × Int)} (h : chk l = 0) : l.length ≤ 1000 ∧ Ris l := by
  unfold chk at h
  split at h
  · omega
  · split at h
    · rename_i h1 h2
      simp at h2
      exact ⟨by omega, ris_of_steps l fun i hi => by have := h2 i (by omega) hi; simpa [List.getD_eq_getElem?_getD] using this⟩
    · omega
theorem chk_ok {l : List (Int × Int)} (h : l.length ≤ 1000) (hr : Ris l) : chk l = 0 := by
  unfold chk
  rw [if_neg (by omega), if_pos]
  simp
  intro i _ hi
  have := ris_at hr (show i < i + 1 by omega) hi
  simpa [List.getD_eq_getElem?_getD] using this
theorem chk_order {l : List (Int × Int)} (h : l.length ≤ 1000) {i : Nat} (hi : i + 1 < l.length) (hle : (l.getD (i + 1) (0, 0)).1 ≤ (l.getD i (0, 0)).1) : chk l = 5 := by
  unfold chk
  rw [if_neg (by omega), if_neg]
  simp
  exact ⟨i, by omega, hi, by simpa [List.getD_eq_getElem?_getD] using hle⟩
theorem chk_cases (l : List (Int × Int)) : chk l = 0 ∨ chk l = 2 ∨ chk l = 5 := by
  unfold chk; split
  · simp
  · split <;> simp
/-- Both lists as one: of one time the greater measure. -/
def mrg : List (Int × Int) → List (Int × Int) → List (Int × Int)
  | [], b => b
  | s :: a, [] => s :: a
  | s :: a, r :: b => if s.1 < r.1 then s :: mrg a (r :: b) else if r.1 < s.1 then r :: mrg (s :: a) b else (s.1, max s.2 r.2) :: mrg a b
termination_by a b => a.length + b.length
theorem mrg_nil (a : List (Int × Int)) : mrg a [] = a := by cases a <;> simp [mrg]
theorem mrg_nil' (b : List (Int × Int)) : mrg [] b = b := by simp [mrg]
theorem mrg_lt {s r : Int × Int} (a b : List (Int × Int)) (h : s.1 < r.1) : mrg (s :: a) (r :: b) = s :: mrg a (r :: b) := by rw [mrg, if_pos h]
theorem mrg_gt {s r : Int × Int} (a b : List (Int × Int)) (h : r.1 < s.1) : mrg (s :: a) (r :: b) = r :: mrg (s :: a) b := by rw [mrg, if_neg (by omega), if_pos h]
theorem mrg_eq {s r : Int × Int} (a b : List (Int × Int)) (h : s.1 = r.1) : mrg (s :: a) (r :: b) = (s.1, max s.2 r.2) :: mrg a b := by rw [mrg, if_neg (by omega), if_neg (by omega)]
theorem mrg_ind {M : List (Int × Int) → List (Int × Int) → Prop} (h1 : ∀ b, M [] b) (h2 : ∀ a, M a []) (h3 : ∀ s a r b, s.1 < r.1 → M a (r :: b) → M (s :: a) (r :: b)) (h4 : ∀ s a r b, r.1 < s.1 → M (s :: a) b → M (s :: a) (r :: b)) (h5 : ∀ s a r b, s.1 = r.1 → M a b → M (s :: a) (r :: b)) : ∀ a b, M a b := by
  have go : ∀ n a b, List.length a + List.length b ≤ n → M a b := by
    intro n
    induction n with
    | zero => intro a b h; cases a with
      | nil => exact h1 b
      | cons s a => simp at h
    | succ n ih =>
      intro a b h
      match a, b with
      | [], b => exact h1 b
      | a, [] => exact h2 a
      | s :: a, r :: b =>
        simp at h
        rcases Int.lt_trichotomy s.1 r.1 with hlt | heq | hgt
        · exact h3 s a r b hlt (ih _ _ (by simp; omega))
        · exact h5 s a r b heq (ih _ _ (by omega))
        · exact h4 s a r b hgt (ih _ _ (by simp; omega))
  exact fun a b => go _ a b (Nat.le_refl _)
theorem mrg_length : ∀ a b, (mrg a b).length ≤ a.length + b.length := by
  refine mrg_ind (fun b => by simp [mrg_nil']) (fun a => by simp [mrg_nil]) (fun s a r b h ih => ?_) (fun s a r b h ih => ?_) (fun s a r b h ih => ?_)
  · rw [mrg_lt _ _ h]; simp at ih ⊢; omega
  · rw [mrg_gt _ _ h]; simp at ih ⊢; omega
  · rw [mrg_eq _ _ h]; simp at ih ⊢; omega
theorem mrg_times : ∀ a b, ∀ x ∈ mrg a b, (∃ y ∈ a, y.1 = x.1) ∨ ∃ y ∈ b, y.1 = x.1 := by
  refine mrg_ind (fun b => ?_) (fun a => ?_) (fun s a r b h ih => ?_) (fun s a r b h ih => ?_) (fun s a r b h ih => ?_)
  · rw [mrg_nil']; exact fun x hx => .inr ⟨x, hx, rfl⟩
  · rw [mrg_nil]; exact fun x hx => .inl ⟨x, hx, rfl⟩
  · rw [mrg_lt _ _ h]; intro x hx
    rcases List.mem_cons.1 hx with rfl | hx
    · exact .inl ⟨_, List.mem_cons_self, rfl⟩
    · rcases ih x hx with ⟨y, hy, e⟩ | ⟨y, hy, e⟩
      · exact .inl ⟨y, List.mem_cons_of_mem _ hy, e⟩
      · exact .inr ⟨y, hy, e⟩
  · rw [mrg_gt _ _ h]; intro x hx
    rcases List.mem_cons.1 hx with rfl | hx
    · exact .inr ⟨_, List.mem_cons_self, rfl⟩
    · rcases ih x hx with ⟨y, hy, e⟩ | ⟨y, hy, e⟩
      · exact .inl ⟨y, hy, e⟩
      · exact .inr ⟨y, List.mem_cons_of_mem _ hy, e⟩
  · rw [mrg_eq _ _ h]; intro x hx
    rcases List.mem_cons.1 hx with rfl | hx
    · exact .inl ⟨_, List.mem_cons_self, rfl⟩
    · rcases ih x hx with ⟨y, hy, e⟩ | ⟨y, hy, e⟩
      · exact .inl ⟨y, List.mem_cons_of_mem _ hy, e⟩
      · exact .inr ⟨y, List.mem_cons_of_mem _ hy, e⟩
theorem mrg_ris : ∀ a b, Ris a → Ris b → Ris (mrg a b) := by
  refine mrg_ind (fun b _ hb => by rw [mrg_nil']; exact hb) (fun a ha _ => by rw [mrg_nil]; exact ha) (fun s a r b h ih ha hb => ?_) (fun s a r b h ih ha hb => ?_) (fun s a r b h ih ha hb => ?_)
  · rw [mrg_lt _ _ h]
    refine List.pairwise_cons.2 ⟨fun x hx => ?_, ih ha.tail hb⟩
    rcases mrg_times _ _ x hx with ⟨y, hy, e⟩ | ⟨y, hy, e⟩
    · rw [← e]; exact ha.head y hy
    · rcases List.mem_cons.1 hy with rfl | hy
      · omega
      · have := hb.head y hy; omega
  · rw [mrg_gt _ _ h]
    refine List.pairwise_cons.2 ⟨fun x hx => ?_, ih ha hb.tail⟩
    rcases mrg_times _ _ x hx with ⟨y, hy, e⟩ | ⟨y, hy, e⟩
    · rcases List.mem_cons.1 hy with rfl | hy
      · omega
      · have := ha.head y hy; omega
    · rw [← e]; exact hb.head y hy
  · rw [mrg_eq _ _ h]
    refine List.pairwise_cons.2 ⟨fun x hx => ?_, ih ha.tail hb.tail⟩
    rcases mrg_times _ _ x hx with ⟨y, hy, e⟩ | ⟨y, hy, e⟩
    · have := ha.head y hy; simp; omega
    · have := hb.head y hy; simp; omega
theorem mrg_i64 : ∀ a b, I64s a → I64s b → I64s (mrg a b) := by
  have tl : ∀ {s : Int × Int} {l : List (Int × Int)}, I64s (s :: l) → I64s l := fun h x hx => h x (List.mem_cons_of_mem _ hx)
  refine mrg_ind (fun b _ hb => by rw [mrg_nil']; exact hb) (fun a ha _ => by rw [mrg_nil]; exact ha) (fun s a r b h ih ha hb => ?_) (fun s a r b h ih ha hb => ?_) (fun s a r b h ih ha hb => ?_)
  · rw [mrg_lt _ _ h]; intro x hx
    rcases List.mem_cons.1 hx with rfl | hx
    · exact ha _ List.mem_cons_self
    · exact ih (tl ha) hb x hx
  · rw [mrg_gt _ _ h]; intro x hx
    rcases List.mem_cons.1 hx with rfl | hx
    · exact hb _ List.mem_cons_self
    · exact ih ha (tl hb) x hx
  · rw [mrg_eq _ _ h]; intro x hx
    rcases List.mem_cons.1 hx with rfl | hx
    · have h1 := ha _ List.mem_cons_self
      have h2 := hb _ List.mem_cons_self
      simp only; omega
    · exact ih (tl ha) (tl hb) x hx
/-- The measure of a time. -/
def look : List (Int × Int) → Int → Option Int
  | [], _ => none
  | s :: l, t => if s.1 = t then some s.2 else look l t
def omx : Option Int → Option Int → Option Int
  | none, y => y
  | x, none => x
  | some x, some y => some (max x y)
theorem omx_none (x : Option Int) : omx x none = x := by cases x <;> rfl
theorem omx_comm (x y : Option Int) : omx x y = omx y x := by cases x <;> cases y <;> simp [omx, Int.max_comm]
theorem omx_assoc (x y z : Option Int) : omx (omx x y) z = omx x (omx y z) := by cases x <;> cases y <;> cases z <;> simp [omx, Int.max_assoc]
theorem omx_again (x y : Option Int) : omx (omx x y) y = omx x y := by
  cases x <;> cases y <;> simp [omx]
theorem look_above {l : List (Int × Int)} {t : Int} (h : ∀ r ∈ l, t < r.1) : look l t = none := by
  induction l with
  | nil => rfl
  | cons s l ih =>
    have := h s List.mem_cons_self
    simp only [look]
    rw [if_neg (by omega)]
    exact ih fun r hr => h r (List.mem_cons_of_mem _ hr)
theorem look_mem {l : List (Int × Int)} {t v : Int} (h : look l t = some v) : (t, v) ∈ l := by
  induction l with
  | nil => simp [look] at h
  | cons s l ih =>
    simp only [look] at h
    split at h
    · rename_i e
      simp at h
      subst e h
      exact List.mem_cons_self
    · exact List.mem_cons_of_mem _ (ih h)
theorem mem_look {l : List (Int × Int)} (hr : Ris l) {s : Int × Int} (h : s ∈ l) : look l s.1 = some s.2 := by
  induction l with
  | nil => cases h
  | cons r l ih =>
    simp only [look]
    rcases List.mem_cons.1 h with rfl | h
    · simp
    · have := hr.head s h
      rw [if_neg (by omega)]
      exact ih hr.tail h
theorem look_mrg (t : Int) : ∀ a b, Ris a → Ris b → look (mrg a b) t = omx (look a t) (look b t) := by
  refine mrg_ind (fun b _ _ => by rw [mrg_nil']; rfl) (fun a _ _ => by rw [mrg_nil]; exact (omx_none _).symm) (fun s a r b h ih ha hb => ?_) (fun s a r b h ih ha hb => ?_) (fun s a r b h ih ha hb => ?_)
  · rw [mrg_lt _ _ h]
    by_cases e : s.1 = t
    · have h1 : look (r :: b) t = none := look_above fun x hx => by
        rcases List.mem_cons.1 hx with rfl | hx
        · omega
        · have := hb.head x hx; omega
      rw [h1, omx_none]; simp [look, e]
    · simp only [look, if_neg e] at ih ⊢
      exact ih ha.tail hb
  · rw [mrg_gt _ _ h]
    by_cases e : r.1 = t
    · have h1 : look (s :: a) t = none := look_above fun x hx => by
        rcases List.mem_cons.1 hx with rfl | hx
        · omega
        · have := ha.head x hx; omega
      rw [h1]; simp [look, e, omx]
    · simp only [look, if_neg e] at ih ⊢
      exact ih ha hb.tail
  · rw [mrg_eq _ _ h]
    by_cases e : s.1 = t
    · simp [look, e, ← h, omx]
    · have e2 : ¬ r.1 = t := by omega
      simp only [look, if_neg e, if_neg e2] at ih ⊢
      exact ih ha.tail hb.tail
theorem look_ext {a b : List (Int × Int)} (ha : Ris a) (hb : Ris b) (h : ∀ t, look a t = look b t) : a = b := by
  induction a generalizing b with
  | nil =>
    cases b with
    | nil => rfl
    | cons r b => have := h r.1; simp [look] at this
  | cons s a ih =>
    cases b with
    | nil => have := h s.1; simp [look] at this
    | cons r b =>
      have key : ∀ {x y : Int × Int} {l m : List (Int × Int)}, Ris (y :: m) → (∀ t, look (x :: l) t = look (y :: m) t) → y.1 ≤ x.1 := by
        intro x y l m hm hh
        have h1 := hh x.1
        simp only [look, if_pos] at h1
        by_cases e : y.1 = x.1
        · omega
        · rw [if_neg e] at h1
          have := hm.head _ (look_mem h1.symm)
          simp at this; omega
      have h1 := key hb h
      have h2 := key ha fun t => (h t).symm
      have e : s.1 = r.1 := by omega
      have e2 : s.2 = r.2 := by have := h s.1; simpa [look, e] using this
      have es : s = r := Prod.ext e e2
      subst es
      rw [ih ha.tail hb.tail fun t => ?_]
      by_cases et : s.1 = t
      · rw [look_above (fun x hx => by have := ha.head x hx; omega), look_above (fun x hx => by have := hb.head x hx; omega)]
      · have := h t
        simpa only [look, if_neg et] using this
theorem mrg_comm {a b : List (Int × Int)} (ha : Ris a) (hb : Ris b) : mrg a b = mrg b a :=
  look_ext (mrg_ris _ _ ha hb) (mrg_ris _ _ hb ha) fun t => by rw [look_mrg t _ _ ha hb, look_mrg t _ _ hb ha, omx_comm]
theorem mrg_again {a b : List (Int × Int)} (ha : Ris a) (hb : Ris b) : mrg (mrg a b) b = mrg a b :=
  look_ext (mrg_ris _ _ (mrg_ris _ _ ha hb) hb) (mrg_ris _ _ ha hb) fun t => by rw [look_mrg t _ _ (mrg_ris _ _ ha hb) hb, look_mrg t _ _ ha hb, omx_again]
theorem mrg_assoc {a b c : List (Int × Int)} (ha : Ris a) (hb : Ris b) (hc : Ris c) : mrg (mrg a b) c = mrg a (mrg b c) :=
  look_ext (mrg_ris _ _ (mrg_ris _ _ ha hb) hc) (mrg_ris _ _ ha (mrg_ris _ _ hb hc)) fun t => by
    rw [look_mrg t _ _ (mrg_ris _ _ ha hb) hc, look_mrg t _ _ ha hb, look_mrg t _ _ ha (mrg_ris _ _ hb hc), look_mrg t _ _ hb hc, omx_assoc]
/-- Samples from a time on, ahead of another one. -/
def btw (l : List (Int × Int)) (f t : Int) : List (Int × Int) := l.filter fun s => decide (f ≤ s.1) && decide (s.1 < t)
/-- The place of the first sample that is not below t. -/
def IsFrom (l : List (Int × Int)) (t : Int) (k : Nat) : Prop := k ≤ l.length ∧ (∀ j, j < k → (l.getD j (0, 0)).1 < t) ∧ ∀ j, k ≤ j → j < l.length → t ≤ (l.getD j (0, 0)).1
theorem filter_below {l : List (Int × Int)} {t : Int} {k : Nat} (h : IsFrom l t k) : l.filter (fun s => decide (s.1 < t)) = l.take k := by
  obtain ⟨h1, h2, h3⟩ := h
  conv => lhs; rw [← List.take_append_drop k l]
  rw [List.filter_append, List.filter_eq_self.2, List.filter_eq_nil_iff.2, List.append_nil]
  · intro s hs
    obtain ⟨j, hj, rfl⟩ := List.mem_iff_getElem.1 hs
    simp at hj
    have := h3 (k + j) (by omega) (by omega)
    simp [List.getD_eq_getElem?_getD, List.getElem?_eq_getElem (show k + j < l.length by omega)] at this
    simp; omega
  · intro s hs
    obtain ⟨j, hj, rfl⟩ := List.mem_iff_getElem.1 hs
    simp at hj
    have := h2 j (by omega)
    simp [List.getD_eq_getElem?_getD, List.getElem?_eq_getElem (show j < l.length by omega)] at this
    simp; omega
theorem IsFrom.drop {l : List (Int × Int)} {t : Int} {b k : Nat} (h : IsFrom l t k) (hb : b ≤ l.length) : IsFrom (l.drop b) t (max b k - b) := by
  obtain ⟨h1, h2, h3⟩ := h
  have e : ∀ j, (l.drop b).getD j (0, 0) = l.getD (b + j) (0, 0) := fun j => by simp [List.getD_eq_getElem?_getD]
  refine ⟨by simp; omega, fun j hj => ?_, fun j hj hl => ?_⟩
  · rw [e]; exact h2 _ (by omega)
  · rw [e]; simp at hl; exact h3 _ (by omega) (by omega)
theorem btw_eq {l : List (Int × Int)} {f t : Int} {b k : Nat} (hb : IsFrom l f b) (hk : IsFrom l t k) : btw l f t = (l.drop b).take (max b k - b) := by
  rw [← filter_below (hk.drop hb.1)]
  unfold btw
  conv => lhs; rw [← List.take_append_drop b l]
  rw [List.filter_append]
  have e1 : (l.take b).filter (fun s => decide (f ≤ s.1) && decide (s.1 < t)) = [] := by
    rw [List.filter_eq_nil_iff]
    intro s hs
    obtain ⟨j, hj, rfl⟩ := List.mem_iff_getElem.1 hs
    simp at hj
    have := hb.2.1 j (by omega)
    simp [List.getD_eq_getElem?_getD, List.getElem?_eq_getElem (show j < l.length by omega)] at this
    simp; omega
  rw [e1, List.nil_append]
  apply List.filter_congr
  intro s hs
  obtain ⟨j, hj, rfl⟩ := List.mem_iff_getElem.1 hs
  simp at hj
  have := hb.2.2 (b + j) (by omega) (by omega)
  simp [List.getD_eq_getElem?_getD, List.getElem?_eq_getElem (show b + j < l.length by omega)] at this
  simp [this]
theorem btw_ris {l : List (Int × Int)} (h : Ris l) (f t : Int) : Ris (btw l f t) := h.filter _
theorem btw_i64 {l : List (Int × Int)} (h : I64s l) (f t : Int) : I64s (btw l f t) := fun s hs => h s (List.mem_filter.1 hs).1
theorem btw_length (l : List (Int × Int)) (f t : Int) : (btw l f t).length ≤ l.length := List.length_filter_le _ _
theorem filter_parts {l : List (Int × Int)} (h : Ris l) {a b c : Int} (hab : a ≤ b) (hbc : b ≤ c) : btw l a c = btw l a b ++ btw l b c := by
  induction l with
  | nil => rfl
  | cons s l ih =>
    have ih := ih h.tail
    unfold btw at *
    by_cases h1 : s.1 < b
    · by_cases h2 : a ≤ s.1
      · rw [List.filter_cons_of_pos (by simp; omega), List.filter_cons_of_pos (by simp; omega), List.filter_cons_of_neg (by simp; omega), ih, List.cons_append]
      · rw [List.filter_cons_of_neg (by simp; omega), List.filter_cons_of_neg (by simp; omega), List.filter_cons_of_neg (by simp; omega), ih]
    · have e : (s :: l).filter (fun s => decide (a ≤ s.1) && decide (s.1 < b)) = [] := by
        rw [List.filter_eq_nil_iff]
        intro x hx
        rcases List.mem_cons.1 hx with rfl | hx
        · simp; omega
        · have := h.head x hx
          simp; omega
      rw [e, List.nil_append]
      apply List.filter_congr
      intro x hx
      have hb : b ≤ x.1 := by
        rcases List.mem_cons.1 hx with rfl | hx
        · omega
        · have := h.head x hx; omega
      have : a ≤ x.1 := by omega
      simp [hb, this]
/-- What lies at one time. -/
theorem btw_one {l : List (Int × Int)} (h : Ris l) (t : Int) : btw l t (t + 1) = match look l t with | none => [] | some v => [(t, v)] := by
  induction l with
  | nil => rfl
  | cons s l ih =>
    have ih := ih h.tail
    unfold btw at *
    simp only [look]
    by_cases e : s.1 = t
    · rw [List.filter_cons_of_pos (by simp; omega), ih, if_pos e, look_above (fun r hr => by have := h.head r hr; omega)]
      simp [← e]
    · rw [List.filter_cons_of_neg (by simp; omega), if_neg e, ih]
end P
end Go.Proofs.YtfjbdgkdkbcnhaaDoor
/- Words and laws of my own for rows of samples: rows that are read, rows that the call owns, how a sample or a row is put behind them, and how an argument is opened. -/
namespace Go.Proofs.YtfjbdgkdkbcnhaaDoor
open Go.ChangeShapes Go.WideShapes Go.ChangeAt Go.RowKit Go.Joins
set_option linter.unusedVariables false

theorem Tryd.info49 : (Tryd.prog.info? 49).map (fun i => (i.zero, i.size, i.bytes)) = some (some (.agg #[.int .i64 0, .int .i64 0]), 2, 16) := by kernel_rfl
theorem cells49 : Tryd.prog.cellsOf 49 = 2 := by kernel_rfl
theorem bytes49 : Tryd.prog.bytesOf 49 = 16 := by kernel_rfl
theorem cellsT2 : Tryd.prog.cellsOf 2 = 1 := by kernel_rfl

theorem below_dn {B : Nat} {a w : World} (h : Below B a w) (n : Nat) : Below B a (w.drewN n) := ⟨h.os, h.tape, h.output, h.size, h.block⟩
/-- The cells of samples. -/
def smp (l : List (Int × Int)) : List Value := l.flatMap fun s => [.int .i64 s.1, .int .i64 s.2]
theorem smp_length (l : List (Int × Int)) : (smp l).length = l.length * 2 := by
  induction l with
  | nil => rfl
  | cons s l ih => simp [smp] at ih ⊢; omega
theorem smp_append (l m : List (Int × Int)) : smp (l ++ m) = smp l ++ smp m := by simp [smp]
theorem smp_at0 (l : List (Int × Int)) (j : Nat) (hj : j < l.length) : (smp l)[j * 2]? = some (.int .i64 (l.getD j (0, 0)).1) := by
  induction l generalizing j with
  | nil => simp at hj
  | cons s l ih =>
    cases j with
    | zero => simp [smp]
    | succ j => simp at hj; have := ih j hj; rw [show (j + 1) * 2 = j * 2 + 1 + 1 by omega]; simpa [smp] using this
theorem smp_at1 (l : List (Int × Int)) (j : Nat) (hj : j < l.length) : (smp l)[j * 2 + 1]? = some (.int .i64 (l.getD j (0, 0)).2) := by
  induction l generalizing j with
  | nil => simp at hj
  | cons s l ih =>
    cases j with
    | zero => simp [smp]
    | succ j => simp at hj; have := ih j hj; rw [show (j + 1) * 2 + 1 = j * 2 + 1 + 1 + 1 by omega]; simpa [smp] using this
theorem smp_one {l : List (Int × Int)} {u : Value} (h : u ∈ smp l) : u.oneCell' = true := by
  unfold smp at h
  obtain ⟨s, _, hs⟩ := List.mem_flatMap.1 h
  simp at hs
  rcases hs with rfl | rfl <;> rfl

/-- Samples that the call itself made. -/
abbrev OwnS (w : World) (base : Nat) (v : Value) (l : List (Int × Int)) : Prop := w.ownsRow base 49 2 v l.length (smp l)
/-- Samples that can be read. -/
def RowS (w : World) (v : Value) (l : List (Int × Int)) : Prop :=
  ∃ a cap, v = .slice a l.length cap ∧ (l.length ≤ cap ∧ cap ≤ maxLen ∧ (a = none → cap = 0)) ∧ (l = [] ∨ ∃ b off, a = some ⟨b, off, none⟩ ∧ b < w.heap.size ∧ ∀ j, j < l.length → w.cell? ⟨b, off + j * 2, none⟩ = some (.int .i64 (l.getD j (0, 0)).1) ∧ w.cell? ⟨b, off + j * 2 + 1, none⟩ = some (.int .i64 (l.getD j (0, 0)).2))
theorem RowS.below {w w' : World} {B : Nat} {v : Value} {l : List (Int × Int)} (h : RowS w v l) (hb : Below B w w') (hB : w.heap.size ≤ B) : RowS w' v l := by
  obtain ⟨a, cap, rfl, hl, h⟩ := h
  refine ⟨a, cap, rfl, hl, ?_⟩
  rcases h with h | ⟨b, off, rfl, hlt, hc⟩
  · exact .inl h
  · refine .inr ⟨b, off, rfl, Nat.lt_of_lt_of_le hlt hb.size, fun j hj => ⟨?_, ?_⟩⟩
    · exact (hb.cell (p := ⟨b, off + j * 2, none⟩) (Nat.lt_of_lt_of_le hlt hB)).trans (hc j hj).1
    · exact (hb.cell (p := ⟨b, off + j * 2 + 1, none⟩) (Nat.lt_of_lt_of_le hlt hB)).trans (hc j hj).2
theorem RowS.shp {w : World} {v : Value} {l : List (Int × Int)} (h : RowS w v l) : ∃ a cap, v = .slice a l.length cap := by
  obtain ⟨a, cap, hv, _⟩ := h; exact ⟨a, cap, hv⟩
theorem RowS.nil (w : World) : RowS w (.slice none 0 0) [] := ⟨none, 0, rfl, ⟨by simp, by simp, fun _ => rfl⟩, .inl rfl⟩
theorem OwnS.row {w : World} {base : Nat} {v : Value} {l : List (Int × Int)} (h : OwnS w base v l) : RowS w v l := by
  obtain ⟨h1, h2⟩ := h
  rcases h2 with ⟨rfl, h0⟩ | ⟨g, cap, cur, rfl, hb, hg, hn, hm, hs, ht⟩
  · have : l = [] := List.length_eq_zero_iff.1 h0
    subst this
    exact RowS.nil w
  · refine ⟨_, cap, rfl, ⟨hn, hm, fun h => by cases h⟩, .inr ⟨g, 0, rfl, (Array.getElem?_eq_some_iff.1 hg).1, fun j hj => ?_⟩⟩
    have key : ∀ i u, i < l.length * 2 → (smp l)[i]? = some u → cur[i]? = some u := by
      intro i u hi hu
      have h3 : (cur.toList.take (l.length * 2))[i]? = (smp l)[i]? := by rw [ht]
      rw [List.getElem?_take, if_pos hi, hu] at h3
      rw [← Array.getElem?_toList, h3]
    have e0 := key (j * 2) _ (by omega) (smp_at0 l j hj)
    have e1 := key (j * 2 + 1) _ (by omega) (smp_at1 l j hj)
    exact ⟨by simp [World.cell?, hg, e0], by simp [World.cell?, hg, e1]⟩
theorem OwnS.shp {w : World} {base : Nat} {v : Value} {l : List (Int × Int)} (h : OwnS w base v l) : ∃ a cap, v = .slice a l.length cap := h.row.shp
theorem OwnS.base {w : World} {b b' : Nat} {v : Value} {l : List (Int × Int)} (h : OwnS w b v l) (hb : b' ≤ b) : OwnS w b' v l := by
  obtain ⟨h1, h2⟩ := h
  refine ⟨h1, ?_⟩
  rcases h2 with h2 | ⟨g, cap, cur, rfl, hg, r⟩
  · exact .inl h2
  · exact .inr ⟨g, cap, cur, rfl, Nat.le_trans hb hg, r⟩
theorem OwnS.below {w w' : World} {base B : Nat} {v : Value} {l : List (Int × Int)} (h : OwnS w base v l) (hb : Below B w w') (hB : w.heap.size ≤ B) : OwnS w' base v l := by
  obtain ⟨h1, h2⟩ := h
  refine ⟨h1, ?_⟩
  rcases h2 with h2 | ⟨g, cap, cur, rfl, hg, hh, r⟩
  · exact .inl h2
  · exact .inr ⟨g, cap, cur, rfl, hg, by rw [hb.block g (Nat.lt_of_lt_of_le (Array.getElem?_eq_some_iff.1 hh).1 hB)]; exact hh, r⟩
/-- What is owned stays, when a row that lies below it grows. -/
theorem OwnS.grown {w w' : World} {b : Nat} {v : Value} {l : List (Int × Int)} {row : Option Nat} (h : OwnS w b v l) (hg : w.grownBy w' row) (hr : ∀ k, row = some k → k < b) : OwnS w' b v l := by
  obtain ⟨h1, h2⟩ := h
  refine ⟨h1, ?_⟩
  rcases h2 with h2 | ⟨g, cap, cur, rfl, hg', hh, r⟩
  · exact .inl h2
  · refine .inr ⟨g, cap, cur, rfl, hg', ?_, r⟩
    rw [hg.block g (Array.getElem?_eq_some_iff.1 hh).1 (fun e => by have := hr g e.symm; omega)]
    exact hh
theorem OwnS.nil (w : World) (base : Nat) : OwnS w base (.slice none 0 0) [] := World.ownsRow_nil _ _ _ _
/-- A part of a row: l[b:e]. -/
theorem RowS.part {w : World} {bl off len cap : Nat} {l : List (Int × Int)} (h : RowS w (.slice (some ⟨bl, off, none⟩) len cap) l) (b n : Nat) (hb : b + n ≤ l.length) (off' cap' : Nat) (ho : off' = off + b * 2) (hc' : cap' = cap - b) :
    RowS w (.slice (some ⟨bl, off', none⟩) n cap') ((l.drop b).take n) := by
  obtain ⟨a, c, hv, ⟨h1, h2, h3⟩, hcase⟩ := h
  simp only [Value.slice.injEq] at hv
  obtain ⟨rfl, rfl, rfl⟩ := hv
  subst ho hc'
  have hl : ((l.drop b).take n).length = n := by simp; omega
  refine ⟨_, _, by rw [hl], ⟨by omega, by omega, fun h => by cases h⟩, ?_⟩
  rcases hcase with h | ⟨b', off', he, hlt, hc⟩
  · left; rw [h]; simp
  · simp at he
    obtain ⟨rfl, rfl⟩ := he
    refine .inr ⟨bl, off + b * 2, rfl, hlt, fun j hj => ?_⟩
    rw [hl] at hj
    obtain ⟨g0, g1⟩ := hc (b + j) (by omega)
    have e : ((l.drop b).take n).getD j (0, 0) = l.getD (b + j) (0, 0) := by simp [List.getD_eq_getElem?_getD, hj]
    rw [e]
    exact ⟨by rw [← g0]; congr 2; omega, by rw [← g1]; congr 2; omega⟩

/-- 'append(b, x...)' of samples that can be read to a row of the call's own: what the operation does. -/
theorem op_appS {o : Oper} {a : Act} {K : Act → World → Prop} {Q : Exit → Act → World → Prop} (s x : Operand)
    (ho : o.op = .call { callee := .builtin .append, args := #[s, x], argTypes := #[22, 22] })
    (B base : Nat) (w0 w : World) (v vx : Value) (acc l : List (Int × Int)) (hown : OwnS w base v acc) (hrow : RowS w vx l) (hb : Below B w0 w) (hB : B ≤ base) (hs : a.eval s = v)
    (hx : a.eval x = vx) (hlen : (acc.length + l.length) * 16 ≤ 140737488355328) (hbase : base ≤ w.heap.size)
    (h : ∀ v' w', OwnS w' base v' (acc ++ l) → Below B w0 w' → w.heap.size ≤ w'.heap.size → w.grownBy w' v.ownBlock → K (a.put o.dst v') w') :
    Oper.wp Tryd.prog o a w K Q := by
  obtain ⟨i0, hi, hz0, hz1, hz2⟩ := info_parts Tryd.info49
  obtain ⟨ao, cap, rfl, ⟨hlc, hcm, hnn⟩, hcase⟩ := hrow
  have go : ∀ ad : Addr, ao = some ad → (∀ j u, (smp l)[j]? = some u → w.cell? (ad.add j) = some u) → Oper.wp Tryd.prog o a w K Q := by
    intro ad hao hc
    subst hao
    refine wp_append_own _ s x 22 ho base 49 i0 (.agg #[.int .i64 0, .int .i64 0]) 2 16 Tryd.underlying22 hi hz0 hz1 hz2 rfl (by decide) v _ _ hs hown ad l.length cap (smp l) hx (smp_length l) hc (fun u hu => smp_one hu) ?_ ?_ hbase ?_
    · unfold maxLen; omega
    · omega
    · intro v' w' ho' hg _
      refine h v' w' ?_ (hb.grown hg (by omega) ?_) hg.size hg
      · have e1 : (acc ++ l).length = acc.length + l.length := by simp
        show w'.ownsRow base 49 2 v' (acc ++ l).length (smp (acc ++ l))
        rw [e1, smp_append]; exact ho'
      · intro k hk; have := (hown.lt k hk).1; omega
  rcases hcase with h0 | ⟨b, off, rfl, hbs, hcell⟩
  · subst h0
    cases ao with
    | none =>
      have hcap := hnn rfl
      subst hcap
      have hrun := run_append_owned_none (P := Tryd.prog) (w := w) base 22 o.type 49 i0 2 Tryd.underlying22 hi v _ _ hown
      have hx' : a.eval x = .slice none 0 0 := hx
      unfold Oper.wp
      simp [execOp, ho, resolve, invoke, builtin, hs, hx', hrun, Result.andThen]
      exact h v w (by rw [List.append_nil]; exact hown) hb (Nat.le_refl _) ⟨rfl, rfl, rfl, Nat.le_refl _, fun _ _ _ => rfl⟩
    | some ad => exact go ad rfl (fun j u hj => by simp [smp] at hj)
  · refine go _ rfl (fun j u hj => ?_)
    have ea : (Addr.add ⟨b, off, none⟩ j) = ⟨b, off + j, none⟩ := by
      unfold Addr.add; split
      · rename_i h; subst h; rfl
      · rfl
    have hjl : j < l.length * 2 := by
      rcases Nat.lt_or_ge j (smp l).length with h | h
      · rwa [smp_length] at h
      · rw [List.getElem?_eq_none h] at hj; cases hj
    rw [ea]
    obtain ⟨g0, g1⟩ := hcell (j / 2) (by omega)
    rcases Nat.mod_two_eq_zero_or_one j with e | e
    · have e2 : j = j / 2 * 2 := by omega
      rw [e2, smp_at0 l _ (by omega)] at hj
      rw [e2, g0]; exact hj
    · have e2 : j = j / 2 * 2 + 1 := by omega
      rw [e2, smp_at1 l _ (by omega)] at hj
      rw [e2, ← Nat.add_assoc, g1]; exact hj
/-- The same where the walk stands at it; guarded or not. -/
theorem wp_appSg {ops : Array Oper} {rest : List Oper} {o : Oper} {a : Act} {Q : Exit → Act → World → Prop} (hgd : Region.wanted o (yielded ops a.tmps) = true) (s x : Operand)
    (ho : o.op = .call { callee := .builtin .append, args := #[s, x], argTypes := #[22, 22] })
    (B base : Nat) (w0 w : World) (v vx : Value) (acc l : List (Int × Int)) (hown : OwnS w base v acc) (hrow : RowS w vx l) (hb : Below B w0 w) (hB : B ≤ base) (hs : a.eval s = v)
    (hx : a.eval x = vx) (hlen : (acc.length + l.length) * 16 ≤ 140737488355328) (hbase : base ≤ w.heap.size)
    (h : ∀ v' w', OwnS w' base v' (acc ++ l) → Below B w0 w' → w.heap.size ≤ w'.heap.size → w.grownBy w' v.ownBlock → wpList Tryd.prog ops Q rest (a.put o.dst v') w') :
    wpList Tryd.prog ops Q (o :: rest) a w :=
  wpList_step fun K hK => by
    rw [if_pos hgd]
    exact op_appS s x ho B base w0 w v vx acc l hown hrow hb hB hs hx hlen hbase fun v' w' a1 a2 a3 a4 => hK _ _ (h v' w' a1 a2 a3 a4)
theorem wp_appS {ops : Array Oper} {rest : List Oper} {o : Oper} {a : Act} {Q : Exit → Act → World → Prop} (hgd : o.guard = none) (s x : Operand)
    (ho : o.op = .call { callee := .builtin .append, args := #[s, x], argTypes := #[22, 22] })
    (B base : Nat) (w0 w : World) (v vx : Value) (acc l : List (Int × Int)) (hown : OwnS w base v acc) (hrow : RowS w vx l) (hb : Below B w0 w) (hB : B ≤ base) (hs : a.eval s = v)
    (hx : a.eval x = vx) (hlen : (acc.length + l.length) * 16 ≤ 140737488355328) (hbase : base ≤ w.heap.size)
    (h : ∀ v' w', OwnS w' base v' (acc ++ l) → Below B w0 w' → w.heap.size ≤ w'.heap.size → w.grownBy w' v.ownBlock → wpList Tryd.prog ops Q rest (a.put o.dst v') w') :
    wpList Tryd.prog ops Q (o :: rest) a w :=
  wp_appSg (by simp [Region.wanted, hgd]) s x ho B base w0 w v vx acc l hown hrow hb hB hs hx hlen hbase h
/-- The same as one step of a region that draws. -/
theorem step_appS {ops : Array Oper} {o : Oper} {a : Act} {K : Act → World → Prop} {Q : Exit → Act → World → Prop} {E : Prop} (hgd : o.guard = none) (s x : Operand)
    (ho : o.op = .call { callee := .builtin .append, args := #[s, x], argTypes := #[22, 22] })
    (B base : Nat) (w0 w : World) (v vx : Value) (acc l : List (Int × Int)) (hown : OwnS w base v acc) (hrow : RowS w vx l) (hb : Below B w0 w) (hB : B ≤ base) (hs : a.eval s = v)
    (hx : a.eval x = vx) (hlen : (acc.length + l.length) * 16 ≤ 140737488355328) (hbase : base ≤ w.heap.size)
    (h : ∀ v' w', OwnS w' base v' (acc ++ l) → Below B w0 w' → w.heap.size ≤ w'.heap.size → w.grownBy w' v.ownBlock → K (a.put o.dst v') w') :
    if Region.wanted o (yielded ops a.tmps) = true then Oper.wp Tryd.prog o a w K Q else E := by
  have hw : Region.wanted o (yielded ops a.tmps) = true := by simp [Region.wanted, hgd]
  rw [if_pos hw]
  exact op_appS s x ho B base w0 w v vx acc l hown hrow hb hB hs hx hlen hbase h

/-- One sample in a new block. -/
theorem row_one (w : World) (s : Int × Int) (t : TypeId) : RowS (w.alloc (.cells #[.int .i64 s.1, .int .i64 s.2] t)) (.slice (some ⟨w.heap.size, 0, none⟩) 1 1) [s] := by
  refine ⟨_, 1, rfl, ⟨by simp, by decide, fun h => by cases h⟩, .inr ⟨w.heap.size, 0, rfl, by simp, fun j hj => ?_⟩⟩
  match j, hj with
  | 0, _ => simp

/-- The reach of a slice that stands itself among the arguments, by its length. -/
theorem row_reachN {H : Type} {ts : List TypeId} {ds : List (DataW H)} (hsz : (DataW.weightsEach Tryd.prog ts ds).all (· ≤ reachBytes) = true) {j : Nat} {d : DataW H} {t e : TypeId} {n : Nat} (ht : ts[j]? = some t) (hd : ds[j]? = some d)
    (hu : Tryd.prog.underlying t = some (.slice e)) (h : d = .nil ∧ n = 0 ∨ ∃ elems spare, d = .slice elems spare ∧ elems.length = n) : n * Tryd.prog.bytesOf e ≤ 140737488351232 := by
  rcases h with ⟨_, rfl⟩ | ⟨el, sp, rfl, hl⟩
  · simp
  · have := sized_slice hsz ht hd hu
    have h2 : n * Tryd.prog.bytesOf e ≤ (el.length + sp.length) * Tryd.prog.bytesOf e := Nat.mul_le_mul_right _ (by omega)
    have h3 : reachBytes = 140737488351232 := rfl
    omega

/-- A slice of samples that came in, opened. -/
theorem open_samples {H : Type} {enc : TypeId × Value → H} {W : World} {a : Option Addr} {len cap : Nat} {d : DataW H} {p : List MemPlace}
    (h : ∃ fuel, DataW.trod enc Tryd.prog W 0 (fun _ => true) true fuel 22 [.slice a len cap] = some (d, p)) :
    ∃ l : List (Int × Int), RowS W (.slice a len cap) l ∧ P.I64s l ∧ (d = .nil ∧ l.length = 0 ∨ ∃ elems spare, d = .slice elems spare ∧ elems.length = l.length) := by
  obtain ⟨fuel, hf⟩ := h
  rcases Go.Deep.open_slice_pairs Tryd.underlying22 Tryd.underlying49 cells49 rfl rfl cellsT2 cellsT2 hf with ⟨hcs, hx⟩ | ⟨x, l, c, m, n, V0, V1, D0, D1, P0, P1, hcs, _, hl, hm, hmm, hx, hcell⟩
  · simp at hcs hx
    obtain ⟨rfl, rfl, rfl⟩ := hcs
    exact ⟨[], RowS.nil W, (fun s hs => by cases hs), .inl ⟨hx.1, rfl⟩⟩
  · simp at hcs hx hmm
    obtain ⟨rfl, rfl, rfl⟩ := hcs
    have key : ∀ i, i < len → (∃ z, V0 i = .int .i64 z ∧ (Lit.int .i64 z).wf = true) ∧ ∃ z, V1 i = .int .i64 z ∧ (Lit.int .i64 z).wf = true := by
      intro i hi
      obtain ⟨_, _, h0, h1⟩ := hcell i (by omega)
      obtain ⟨z0, e0, _, w0⟩ := DataW.trod_int Tryd.underlying2 h0
      obtain ⟨z1, e1, _, w1⟩ := DataW.trod_int Tryd.underlying2 h1
      simp at e0 e1
      exact ⟨⟨z0, e0, w0⟩, z1, e1, w1⟩
    have hlen : ((List.range len).map fun i => (intOf (V0 i), intOf (V1 i))).length = len := by simp
    refine ⟨(List.range len).map fun i => (intOf (V0 i), intOf (V1 i)), ⟨some x, cap, by rw [hlen], ⟨by rw [hlen]; omega, hm, fun h => by cases h⟩, ?_⟩, ?_, .inr ⟨_, _, hx.1, by simp⟩⟩
    · rcases Nat.eq_zero_or_pos len with h0 | h0
      · exact .inl (by rw [h0]; rfl)
      · right
        obtain ⟨b, off, spot⟩ := x
        have h1 := (hcell 0 (by omega)).1
        have hs : spot = none := by simpa [Addr.add] using World.cell?_spot h1
        subst hs
        refine ⟨b, off, rfl, World.block_lt_of_cell? W _ h1, fun j hj => ?_⟩
        rw [hlen] at hj
        obtain ⟨g0, g1, _, _⟩ := hcell j (by omega)
        have ea : ∀ k, (Addr.add ⟨b, off, none⟩ k) = ⟨b, off + k, none⟩ := by
          intro k
          unfold Addr.add; split
          · rename_i h; subst h; rfl
          · rfl
        rw [ea] at g0 g1
        obtain ⟨⟨z0, e0, _⟩, z1, e1, _⟩ := key j hj
        have eg : ((List.range len).map fun i => (intOf (V0 i), intOf (V1 i))).getD j (0, 0) = (intOf (V0 j), intOf (V1 j)) := by simp [List.getD_eq_getElem?_getD, hj]
        rw [eg, g0, Nat.add_assoc, g1, e0, e1]
        exact ⟨rfl, rfl⟩
    · intro s hs
      obtain ⟨i, hi, rfl⟩ := List.mem_map.1 hs
      obtain ⟨⟨z0, e0, w0⟩, z1, e1, w1⟩ := key i (List.mem_range.1 hi)
      simp only [e0, e1, intOf]
      exact ⟨bounds_i64 w0, bounds_i64 w1⟩
end Go.Proofs.YtfjbdgkdkbcnhaaDoor
/- How one sample is put behind a row of samples that the call owns. -/
namespace Go.Proofs.YtfjbdgkdkbcnhaaDoor
open Go.RowKit
set_option linter.unusedVariables false
/-- 'append(b, x)' of one sample that lies in a new block, as one step of a region that draws. -/
theorem step_oneS {ops : Array Oper} {o : Oper} {a : Act} {K : Act → World → Prop} {Q : Exit → Act → World → Prop} {E : Prop} (hgd : o.guard = none) (s x : Operand)
    (ho : o.op = .call { callee := .builtin .append, args := #[s, x], argTypes := #[22, 22] })
    (B base : Nat) (w0 w : World) (v : Value) (acc : List (Int × Int)) (y : Int × Int) (hown : OwnS w base v acc) (hb : Below B w0 w) (hB : B ≤ base) (hs : a.eval s = v)
    (hx : a.eval x = .slice (some ⟨w.heap.size, 0, none⟩) 1 1) (hlen : (acc.length + 1) * 16 ≤ 140737488355328) (hbase : base ≤ w.heap.size) (hBw : B ≤ w.heap.size)
    (h : ∀ v' w', OwnS w' base v' (acc ++ [y]) → Below B w0 w' → w.heap.size ≤ w'.heap.size → K (a.put o.dst v') w') :
    if Region.wanted o (yielded ops a.tmps) = true then Oper.wp Tryd.prog o a (w.alloc (.cells #[.int .i64 y.1, .int .i64 y.2] 49)).drew K Q else E :=
  step_appS hgd s x ho B base w0 _ v _ acc [y] (hown.below ((Below.refl _ w).alloc (Nat.le_refl _) (.cells #[.int .i64 y.1, .int .i64 y.2] 49)).drew (Nat.le_refl _)) (row_one w y 49) (hb.alloc hBw (.cells #[.int .i64 y.1, .int .i64 y.2] 49)).drew hB hs hx (by simpa using hlen)
    (by show base ≤ (w.alloc _).heap.size; simp; omega) fun v' w' a1 a2 a3 a4 => h v' w' a1 a2 (by have : (w.alloc (.cells #[.int .i64 y.1, .int .i64 y.2] 49)).heap.size ≤ w'.heap.size := a3; simp at this; omega)
/-- 'append(b, x)' of one sample that lies in a new block, where the walk stands at it. -/
theorem wp_oneS {ops : Array Oper} {rest : List Oper} {o : Oper} {a : Act} {Q : Exit → Act → World → Prop} (hgd : o.guard = none) (s x : Operand)
    (ho : o.op = .call { callee := .builtin .append, args := #[s, x], argTypes := #[22, 22] })
    (B base : Nat) (w0 w : World) (v : Value) (acc : List (Int × Int)) (y : Int × Int) (hown : OwnS w base v acc) (hb : Below B w0 w) (hB : B ≤ base) (hs : a.eval s = v)
    (hx : a.eval x = .slice (some ⟨w.heap.size, 0, none⟩) 1 1) (hlen : (acc.length + 1) * 16 ≤ 140737488355328) (hbase : base ≤ w.heap.size) (hBw : B ≤ w.heap.size)
    (h : ∀ v' w', OwnS w' base v' (acc ++ [y]) → Below B w0 w' → w.heap.size ≤ w'.heap.size → w.grownBy w' v.ownBlock → wpList Tryd.prog ops Q rest (a.put o.dst v') w') :
    wpList Tryd.prog ops Q (o :: rest) a (w.alloc (.cells #[.int .i64 y.1, .int .i64 y.2] 49)) :=
  wp_appS hgd s x ho B base w0 _ v _ acc [y] (hown.below ((Below.refl _ w).alloc (Nat.le_refl _) (.cells #[.int .i64 y.1, .int .i64 y.2] 49)) (Nat.le_refl _)) (row_one w y 49) (hb.alloc hBw (.cells #[.int .i64 y.1, .int .i64 y.2] 49)) hB hs hx (by simpa using hlen)
    (by simp; omega) fun v' w' a1 a2 a3 a4 => h v' w' a1 a2 (by have : (w.alloc (.cells #[.int .i64 y.1, .int .i64 y.2] 49)).heap.size ≤ w'.heap.size := a3; simp at this; omega) ((World.grownBy_alloc w _ _).trans a4)
end Go.Proofs.YtfjbdgkdkbcnhaaDoor
/- What Check, firstFrom and Range answer. -/
namespace Go.Proofs.YtfjbdgkdkbcnhaaDoor
open Go.RowKit
set_option linter.unusedVariables false
/-- Check. -/
theorem check_any (v : Value) (l : List (Int × Int)) (w : World) (hr : RowS w v l) : Calls Tryd.prog 9 #[v] w fun e w' => e = .returned (.int .i64 (P.chk l)) ∧ Below w.heap.size w w' := by
  obtain ⟨a, cap, rfl, ⟨hlc, hmax, hnn⟩, hcase⟩ := hr
  unfold maxLen at hmax
  by_cases hn : 1000 < l.length
  · have hd : decide (1000 < (l.length : Int)) = true := by simp; omega
    have HC := hide (P.chk_large hn)
    go_enter Tryd.func9, Tryd.ntmps9
    go_wp2
    go_ret
    exact ⟨ret_int HC.out.symm, Below.refl _ _⟩
  · have hd : decide (1000 < (l.length : Int)) = false := by simp; omega
    have hn' : l.length ≤ 1000 := by omega
    clear hn
    go_enter Tryd.func9, Tryd.ntmps9
    go_wp2
    go_loopw [3] (fun i wr => ∃ (k : Nat), 1 ≤ k ∧ (k ≤ l.length ∨ k = 1) ∧ i = .int .i64 k ∧ (∀ j, j + 1 < k → (l.getD j (0, 0)).1 < (l.getD (j + 1) (0, 0)).1) ∧ ∃ q, wr = w.drewN q) (fun i _ => l.length - (intOf i).toNat)
    case atStart => exact ⟨1, by omega, .inr rfl, rfl, fun j hj => by omega, 0, rfl⟩
    case round =>
      obtain ⟨k, hk1, hk, rfl, heq, q, rfl⟩ := hrel
      have HE := hide heq
      clear heq
      by_cases hlt : k < l.length
      · rcases hcase with h | ⟨b, off, rfl, hbs, hcell⟩
        · rw [h] at hlt; simp at hlt
        obtain ⟨i, hi⟩ : ∃ i, i + 1 = k := ⟨k - 1, by omega⟩
        have g1 := (hcell k hlt).1
        have g0 := (hcell i (by omega)).1
        clear hcell
        have HT := hide (show (∀ x y, (l.getD i (0, 0)).1 = x → (l.getD k (0, 0)).1 = y → y ≤ x → P.chk l = 5) from fun x y hx hy h => P.chk_order hn' (i := i) (by omega) (by rw [hi, hx, hy]; exact h))
        have HX := hide (rfl : (l.getD i (0, 0)).1 = (l.getD i (0, 0)).1)
        generalize hx : (l.getD i (0, 0)).1 = x at g0
        generalize hy : (l.getD k (0, 0)).1 = y at g1
        have HXx := hide hx
        have HYy := hide hy
        clear hx hy HX
        have ei : IntKind.i64.wrap ((k : Int) - 1) = (i : Int) := by rw [IntKind.wrap_i64]; omega
        have HI := hide hi
        clear hi hk
        have j0 : (0 : Int) ≤ (k : Int) := by omega
        have j1 : (k : Int) < (l.length : Int) := by omega
        have j2 : (i : Int) < (l.length : Int) := by have := HI.out; omega
        have j3 : (0 : Int) ≤ (i : Int) := by omega
        by_cases hxy : y ≤ x
        · have ht : decide (y ≤ x) = true := by simpa using hxy
          go_wp2
          go_quiet (fail)
          go_wp2
          go_ret
          exact ⟨ret_int (HT.out x y HXx.out HYy.out hxy).symm, below_dn (below_dn (Below.refl _ _) _) _⟩
        · have ht : decide (y ≤ x) = false := by simpa using hxy
          go_wp2
          go_quiet (fail)
          go_wp2
          go_roundw
          case rel =>
            refine ⟨k + 1, by omega, .inl (by omega), by go_num, fun j hj => ?_, q + nq, rfl⟩
            rcases Nat.lt_or_ge (j + 1) k with h | h
            · exact HE.out j h
            · have := HI.out
              obtain rfl : j = i := by omega
              rw [this, HXx.out, HYy.out]; omega
          case measure => simp [intOf]; omega
      · have hd : decide ((k : Int) < (l.length : Int)) = false := by simp; omega
        have HC : Hid (P.chk l = 0) := P.chk_ok hn' (P.ris_of_steps l fun i hi => HE.out i (by omega))
        go_wp2
        go_ret
        exact ⟨ret_int HC.out.symm, below_dn (Below.refl _ _) _⟩
/-- The closure of firstFrom. -/
theorem from1 (v : Value) (l : List (Int × Int)) (t : Int) (i b1 b2 : Nat) (w : World) (hr : RowS w v l) (hi : i < l.length) (h1 : w.cell? ⟨b1, 0, none⟩ = some v) (h2 : w.cell? ⟨b2, 0, none⟩ = some (.int .i64 t)) :
    Calls Tryd.prog 66 #[.int .i64 i, .pointer (some ⟨b1, 0, none⟩), .pointer (some ⟨b2, 0, none⟩)] w fun e w' => e = .returned (.bool (decide (t ≤ (l.getD i (0, 0)).1))) ∧ ∃ q, w' = w.drewN q := by
  obtain ⟨a, cap, rfl, ⟨hlc, hmax, hnn⟩, hcase⟩ := hr
  unfold maxLen at hmax
  rcases hcase with h | ⟨b, off, rfl, hbs, hcell⟩
  · rw [h] at hi; simp at hi
  have g := (hcell i hi).1
  clear hcell
  generalize (l.getD i (0, 0)).1 = x at *
  have j0 : (0 : Int) ≤ (i : Int) := by omega
  have j1 : (i : Int) < (l.length : Int) := by omega
  go_enter Tryd.func66, Tryd.ntmps66
  go_wp2
  go_quiet (fail)
  go_wp2
  go_ret
  exact ⟨rfl, _, rfl⟩

theorem RowS.dn {w : World} {v : Value} {l : List (Int × Int)} (h : RowS w v l) (q : Nat) : RowS (w.drewN q) v l := h.below (below_dn (Below.refl _ w) q) (Nat.le_refl _)
set_option maxHeartbeats 1000000 in
theorem search_any (v : Value) (l : List (Int × Int)) (t : Int) (b1 b2 : Nat) (w : World) (hr : RowS w v l) (hs : P.Ris l) (hn : l.length ≤ 1000) (h1 : w.cell? ⟨b1, 0, none⟩ = some v) (h2 : w.cell? ⟨b2, 0, none⟩ = some (.int .i64 t)) :
    Calls Tryd.prog 65 #[.int .i64 l.length, .func (.func 66) #[] #[.pointer (some ⟨b1, 0, none⟩), .pointer (some ⟨b2, 0, none⟩)]] w fun e w' => ∃ k : Nat, P.IsFrom l t k ∧ e = .returned (.int .i64 k) ∧ ∃ q, w' = w.drewN q := by
  have HF := hide (fun (i q : Nat) (hi : i < l.length) => from1 v l t i b1 b2 (w.drewN q) (hr.dn q) hi h1 h2)
  have HS := hide hs
  clear hr h1 h2 hs
  go_enter Tryd.func65, Tryd.ntmps65
  go_wp2
  go_loopw [5, 6] (fun i j wr => ∃ (a b : Nat), a ≤ b ∧ b ≤ l.length ∧ i = .int .i64 a ∧ j = .int .i64 b ∧ (∀ k, k < a → (l.getD k (0, 0)).1 < t) ∧ (∀ k, b ≤ k → k < l.length → t ≤ (l.getD k (0, 0)).1) ∧ ∃ q, wr = w.drewN q) (fun i j _ => (intOf j).toNat - (intOf i).toNat)
  case atStart => exact ⟨0, l.length, by omega, Nat.le_refl _, rfl, rfl, fun k hk => by omega, fun k h1 h2 => by omega, 0, rfl⟩
  case round =>
    obtain ⟨a, b, hab, hb, rfl, rfl, hlo, hhi, q, rfl⟩ := hrel
    have HLo := hide hlo
    have HHi := hide hhi
    clear hlo hhi
    by_cases hlt : a < b
    · obtain ⟨m, hm⟩ : ∃ m, m = (a + b) / 2 := ⟨_, rfl⟩
      have hm1 : a ≤ m := by omega
      have hm2 : m < b := by omega
      have em : ((a : Int) + (b : Int)) / 2 = (m : Int) := by omega
      have HC := hide (HF.out m q (by omega))
      have HX := hide (rfl : (l.getD m (0, 0)).1 = (l.getD m (0, 0)).1)
      clear hm HF
      generalize hx : (l.getD m (0, 0)).1 = x at HC
      have HXx := hide hx
      clear hx HX
      by_cases hxt : t ≤ x
      · have ht : decide (t ≤ x) = true := by simpa using hxt
        rw [ht] at HC
        clear ht
        go_wp2_with (go_at_call 66; go_must (refine HC.out.mono ?_); rintro e w' ⟨rfl, q1, rfl⟩)
        go_roundw
        case rel =>
          refine ⟨a, m, hm1, by omega, rfl, rfl, HLo.out, fun k hk1 hk2 => ?_, q + q1, rfl⟩
          rcases Nat.lt_or_ge m k with h | h
          · have := P.ris_at HS.out h hk2
            rw [HXx.out] at this; omega
          · obtain rfl : k = m := by omega
            rw [HXx.out]; exact hxt
        case measure => simp [intOf]; omega
      · have ht : decide (t ≤ x) = false := by simpa using hxt
        rw [ht] at HC
        clear ht
        go_wp2_with (go_at_call 66; go_must (refine HC.out.mono ?_); rintro e w' ⟨rfl, q1, rfl⟩)
        go_roundw
        case rel =>
          refine ⟨m + 1, b, by omega, hb, by go_num, rfl, fun k hk => ?_, HHi.out, q + q1, rfl⟩
          rcases Nat.lt_or_ge k m with h | h
          · have := P.ris_at HS.out h (by omega)
            rw [HXx.out] at this; omega
          · obtain rfl : k = m := by omega
            rw [HXx.out]; omega
        case measure => simp [intOf]; omega
    · have hd : decide ((a : Int) < (b : Int)) = false := by simp; omega
      go_wp2
      go_ret
      exact ⟨a, ⟨by omega, HLo.out, fun j hj => HHi.out j (by omega)⟩, rfl, q, rfl⟩
/-- firstFrom. -/
theorem from_any (v : Value) (l : List (Int × Int)) (t : Int) (w : World) (hr : RowS w v l) (hs : P.Ris l) (hn : l.length ≤ 1000) :
    Calls Tryd.prog 54 #[v, .int .i64 t] w fun e w' => ∃ k : Nat, P.IsFrom l t k ∧ e = .returned (.int .i64 k) ∧ Below w.heap.size w w' := by
  have HF := hide (fun (b1 b2 : Nat) (w : World) (hr : RowS w v l) h1 h2 => search_any v l t b1 b2 w hr hs hn h1 h2)
  have hr0 := hr
  obtain ⟨a, cap, rfl, ⟨hlc, hmax, hnn⟩, hcase⟩ := hr
  unfold maxLen at hmax
  clear hcase
  go_enter Tryd.func54, Tryd.ntmps54
  go_wp2_with (go_at_call 65; go_must (refine (HF.out _ _ _ (hr0.below (((Below.refl _ _).alloc (Nat.le_refl _) _).alloc (by simp) _) (Nat.le_refl _)) ?_ ?_).mono ?_))
  · simp
  · simp
  rintro e w' ⟨k, hk, rfl, q, rfl⟩
  go_wp2
  go_ret
  exact ⟨k, hk, rfl, below_dn (((Below.refl _ _).alloc (Nat.le_refl _) _).alloc (by simp) _) _⟩
end Go.Proofs.YtfjbdgkdkbcnhaaDoor
