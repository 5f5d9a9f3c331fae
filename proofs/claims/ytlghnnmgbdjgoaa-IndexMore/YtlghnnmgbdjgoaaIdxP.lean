/- Plain: what an index of labels tells. -/
import Derived.Test.YtlghnnmgbdjgoaaIdxM
import Derived.Test.YtlghnnmgbdjgoaaLabelG
import Derived.Test.YtlghnnmgbdjgoaaLabelO
namespace Go.Proofs.Ytlghnnmgbdjgoaa
set_option linter.unusedVariables false
namespace P
/-- Does a value of its name fit a match? -/
def fv (v : ByteArray) (x : Mt) : Bool :=
  if x.1 = 1 then v.toList == x.2.2.toList else if x.1 = 2 then !(v.toList == x.2.2.toList)
  else if x.1 = 3 then Lib.hasPrefix (dl v) (dl x.2.2) else Lib.contains (dl v) (dl x.2.2)
theorem fit1_fv (l : List Lb) (x : Mt) : fit1 l x = fv (valO l x.2.1) x := rfl
theorem valO_self (n v : ByteArray) : valO [(n, v)] n = v := by simp [valO]
theorem fit1_one (v : ByteArray) (x : Mt) : fit1 [(x.2.1, v)] x = fv v x := by rw [fit1_fv, valO_self]
theorem valO_memF {p : Option ByteArray} {l : List Lb} (h : chkF p l = 0) {s v : ByteArray} (hm : (s, v) ∈ l) : valO l s = v := by
  induction l generalizing p with
  | nil => cases hm
  | cons y l ih =>
    unfold chkF at h
    split at h
    · cases h
    · split at h
      · cases h
      · split at h
        · cases h
        · unfold valO
          rcases List.mem_cons.1 hm with rfl | hm
          · simp
          · have h1 := chkF_above h _ hm
            have he : (y.1.toList == s.toList) = false := by
              rw [beq_eq_false_iff_ne]
              intro e
              rw [show (s, v).1 = s from rfl, e, less_irr] at h1
              cases h1
            rw [List.find?_cons, he]
            exact ih h hm
theorem valO_mem {l : List Lb} (h : chk l = 0) {s v : ByteArray} (hm : (s, v) ∈ l) : valO l s = v := by
  unfold chk at h
  split at h
  · cases h
  · exact valO_memF h hm
theorem tl_inj {a b : ByteArray} (h : a.toList = b.toList) : a = b := by
  rw [Lib.toList_data, Lib.toList_data] at h
  exact dl_inj h
theorem valO_no {l : List Lb} {s : ByteArray} (h : ∀ v, (s, v) ∉ l) : valO l s = ⟨#[]⟩ := by
  refine valO_end fun j x hx => ?_
  rw [beq_eq_false_iff_ne]
  intro e
  have hm := List.mem_of_getElem? hx
  have : x.1 = s := tl_inj e
  exact h x.2 (by rw [← this]; exact hm)
/-- The numbers of a list's labels. -/
def evs1 (l : List Lb) (i : Nat) : List Ev := l.map fun y => (y.1, y.2, (i : Int))
def evTo (L : List (List Lb)) : Nat → List Ev
  | 0 => []
  | k + 1 => evTo L k ++ evs1 (L.getD k []) k
theorem mem_nums {ev : List Ev} {s v : ByteArray} {x : Int} : x ∈ nums ev s v ↔ (s, v, x) ∈ ev := by
  unfold nums
  simp only [List.mem_map, List.mem_filter, decide_eq_true_eq]
  constructor
  · rintro ⟨⟨a, b, c⟩, ⟨h1, h2, h3⟩, h4⟩
    simp only at h2 h3 h4
    rw [← h2, ← h3, ← h4]; exact h1
  · intro h
    exact ⟨_, ⟨h, rfl, rfl⟩, rfl⟩
theorem mem_evTo {L : List (List Lb)} {n : Nat} {s v : ByteArray} {x : Int} : (s, v, x) ∈ evTo L n ↔ ∃ i : Nat, i < n ∧ x = (i : Int) ∧ (s, v) ∈ L.getD i [] := by
  induction n with
  | zero => simp [evTo]
  | succ n ih =>
    rw [evTo, List.mem_append, ih]
    constructor
    · rintro (⟨i, h1, h2⟩ | h)
      · exact ⟨i, by omega, h2⟩
      · obtain ⟨y, hy, e⟩ := List.mem_map.1 h
        simp only [Prod.mk.injEq] at e
        obtain ⟨rfl, rfl, rfl⟩ := e
        exact ⟨n, by omega, rfl, hy⟩
    · rintro ⟨i, h1, rfl, h3⟩
      rcases Nat.lt_or_ge i n with h | h
      · exact .inl ⟨i, h, rfl, h3⟩
      · obtain rfl : i = n := by omega
        exact .inr (List.mem_map.2 ⟨_, h3, rfl⟩)
theorem evTo_len {L : List (List Lb)} (n : Nat) (h : ∀ i, i < n → (L.getD i []).length ≤ 10) : (evTo L n).length ≤ 10 * n := by
  induction n with
  | zero => simp [evTo]
  | succ n ih =>
    rw [evTo, List.length_append]
    have h1 := ih fun i hi => h i (by omega)
    have h2 := h n (by omega)
    have h3 : (evs1 (L.getD n []) n).length = (L.getD n []).length := by simp [evs1]
    omega
/-- The numbers of those that have the name of x with a value that fits it, or does not. -/
def ApartL (ev : List Ev) (x : Mt) (fit : Bool) (l : List Int) : Prop := ∀ i, i ∈ l ↔ ∃ v, i ∈ nums ev x.2.1 v ∧ fv v x = fit
theorem apart_direct {ev : List Ev} {x : Mt} {fit : Bool} (hne : x.2.2.toList ≠ []) (hk : x.1 = 1 ∨ x.1 = 2) (he : fv ⟨#[]⟩ x = !fit) : ApartL ev x fit (nums ev x.2.1 x.2.2) := by
  have h0 : ((⟨#[]⟩ : ByteArray).toList == x.2.2.toList) = false := by
    rw [beq_eq_false_iff_ne]
    intro e
    exact hne (e.symm.trans (by rw [Lib.toList_data]))
  intro i
  rcases hk with hk | hk
  · have hf : fit = true := by
      unfold fv at he
      rw [if_pos hk, h0] at he
      cases fit
      · cases he
      · rfl
    subst hf
    constructor
    · intro h; exact ⟨_, h, by unfold fv; rw [if_pos hk]; simp⟩
    · rintro ⟨v, h, h2⟩
      unfold fv at h2
      rw [if_pos hk] at h2
      rw [← tl_inj (eq_of_beq h2)]; exact h
  · have hk1 : ¬ x.1 = 1 := by omega
    have hf : fit = false := by
      unfold fv at he
      rw [if_neg hk1, if_pos hk, h0] at he
      cases fit
      · rfl
      · cases he
    subst hf
    constructor
    · intro h; exact ⟨_, h, by unfold fv; rw [if_neg hk1, if_pos hk]; simp⟩
    · rintro ⟨v, h, h2⟩
      unfold fv at h2
      rw [if_neg hk1, if_pos hk] at h2
      have e3 : v.toList = x.2.2.toList := by simpa using h2
      rw [← tl_inj e3]; exact h
theorem apart_in {L : List (List Lb)} (hc : ∀ i, i < L.length → chk (L.getD i []) = 0) {x : Mt} {fit : Bool} (he : fv ⟨#[]⟩ x = !fit) {l : List Int} (h : ApartL (evTo L L.length) x fit l) (i : Int) :
    i ∈ l ↔ (0 ≤ i ∧ i < L.length) ∧ fit1 (L.getD i.toNat []) x = fit := by
  rw [h i]
  constructor
  · rintro ⟨v, h1, h2⟩
    rw [mem_nums, mem_evTo] at h1
    obtain ⟨j, hj, rfl, hm⟩ := h1
    refine ⟨by omega, ?_⟩
    rw [Int.toNat_natCast, fit1_fv, valO_mem (hc j hj) hm]
    exact h2
  · rintro ⟨⟨h0, h1⟩, h2⟩
    obtain ⟨j, rfl⟩ : ∃ j : Nat, i = (j : Int) := ⟨i.toNat, by omega⟩
    have hj : j < L.length := by omega
    rw [Int.toNat_natCast, fit1_fv] at h2
    by_cases hv : ∃ v, (x.2.1, v) ∈ L.getD j []
    · obtain ⟨v, hv⟩ := hv
      rw [valO_mem (hc j hj) hv] at h2
      exact ⟨v, by rw [mem_nums, mem_evTo]; exact ⟨j, hj, rfl, hv⟩, h2⟩
    · rw [valO_no (fun v hm => hv ⟨v, hm⟩), he] at h2
      cases fit <;> cases h2
/-- Those that fit a match. -/
def FitL (L : List (List Lb)) (x : Mt) (l : List Int) : Prop := ∀ i : Int, i ∈ l ↔ (0 ≤ i ∧ i < L.length) ∧ fit1 (L.getD i.toNat []) x = true
theorem fit_apart {L : List (List Lb)} (hc : ∀ i, i < L.length → chk (L.getD i []) = 0) {x : Mt} (he : fv ⟨#[]⟩ x = false) {l : List Int} (h : ApartL (evTo L L.length) x true l) : FitL L x l := apart_in hc (by rw [he]; rfl) h
theorem fit_others {L : List (List Lb)} (hc : ∀ i, i < L.length → chk (L.getD i []) = 0) {x : Mt} (he : fv ⟨#[]⟩ x = true) {l : List Int} (h : ApartL (evTo L L.length) x false l) : FitL L x (Q.notL L.length l) := by
  intro i
  rw [Q.mem_notL, apart_in hc (by rw [he]; rfl) h i]
  constructor
  · rintro ⟨h1, h2⟩
    refine ⟨h1, ?_⟩
    cases hh : fit1 (L.getD i.toNat []) x
    · exact absurd ⟨h1, hh⟩ h2
    · rfl
  · rintro ⟨h1, h2⟩
    exact ⟨h1, fun h3 => by rw [h2] at h3; cases h3.2⟩
/-- What is found. -/
def findL (L : List (List Lb)) (m : List Mt) : List Int := (Q.upTo L.length).filter fun i => m.all (fit1 (L.getD i.toNat []))
theorem mem_findL (L : List (List Lb)) (m : List Mt) (i : Int) : i ∈ findL L m ↔ (0 ≤ i ∧ i < L.length) ∧ m.all (fit1 (L.getD i.toNat [])) = true := by unfold findL; rw [List.mem_filter, Q.mem_upTo]
theorem findL_asc (L : List (List Lb)) (m : List Mt) : Q.Asc (findL L m) := (Q.upTo_asc _).filter _
theorem findL_len (L : List (List Lb)) (m : List Mt) : (findL L m).length ≤ L.length := by
  have := List.length_filter_le (fun i : Int => m.all (fit1 (L.getD i.toNat []))) (Q.upTo L.length)
  rw [Q.upTo_len] at this
  exact this
theorem findL_nil (L : List (List Lb)) : Q.notL L.length [] = findL L [] := Q.asc_ext (Q.notL_asc _ _) (findL_asc _ _) fun i => by rw [Q.mem_notL, mem_findL]; simp
theorem findL_step {L : List (List Lb)} {m : List Mt} {x : Mt} {l : List Int} (h : FitL L x l) : Q.andL (findL L m) l = findL L (m ++ [x]) := Q.asc_ext (Q.andL_asc _ _) (findL_asc _ _) fun i => by
  rw [Q.mem_andL, mem_findL, mem_findL, h i, List.all_append, Bool.and_eq_true]
  simp only [List.all_cons, List.all_nil, Bool.and_true]
  constructor
  · rintro ⟨⟨h1, h2⟩, _, h3⟩; exact ⟨h1, h2, h3⟩
  · rintro ⟨h1, h2, h3⟩; exact ⟨⟨h1, h2⟩, h1, h3⟩
theorem chkM_at {m : List Mt} (h : chkM m = 0) {x : Mt} (hx : x ∈ m) : chkM [x] = 0 := by
  have hF : ∀ m : List Mt, chkMF m = 0 → ∀ x ∈ m, chkMF [x] = 0 := by
    intro m
    induction m with
    | nil => intro _ x hx; cases hx
    | cons y m ih =>
      intro h x hx
      rw [chkMF] at h
      split at h
      · cases h
      · split at h
        · cases h
        · split at h
          · cases h
          · rcases List.mem_cons.1 hx with rfl | hx
            · rename_i h1 h2 h3
              rw [chkMF, if_neg h1, if_neg h2, if_neg h3]; rfl
            · exact ih h x hx
  unfold chkM at h ⊢
  split at h
  · cases h
  · rw [if_neg (by simp)]
    exact hF m h x hx
/-- A value of at most 40 bytes of a good name makes labels without an error. -/
theorem chk_one {x : Mt} (h : chkM [x] = 0) {v : ByteArray} (hv : v.size ≤ 40) : chk [(x.2.1, v)] = 0 := by
  unfold chkM at h
  rw [if_neg (by simp), chkMF] at h
  split at h
  · cases h
  · split at h
    · cases h
    · rename_i h1 h2
      unfold chk
      rw [if_neg (by simp), chkF, if_neg h2, if_neg (by simp), if_neg (by simpa using hv)]
      rfl
theorem fitsB_one {x : Mt} (h : chkM [x] = 0) {v : ByteArray} (hv : v.size ≤ 40) : fitsB [(x.2.1, v)] [x] = fv v x := by
  unfold fitsB
  rw [chk_one h hv, h, List.all_cons, List.all_nil, Bool.and_true, fit1_one]
  simp
end P
end Go.Proofs.Ytlghnnmgbdjgoaa
