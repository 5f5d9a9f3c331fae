/- Several texts in one. -/
import Derived.Test.YtcaidfffmllfeaaHeavyDAll
/- Plain: what a tally of keys that came tells of them. -/
namespace Go.Proofs.Ytcaidfffmllfeaa
set_option linter.unusedVariables false
namespace P
/-- How often a key came. -/
def tms : List ByteArray → ByteArray → Int
  | [], _ => 0
  | x :: l, q => (if x = q then 1 else 0) + tms l q
theorem tms_append (a b : List ByteArray) (q : ByteArray) : tms (a ++ b) q = tms a q + tms b q := by
  induction a with
  | nil => simp [tms]
  | cons x a ih => simp only [List.cons_append, tms, ih]; omega
theorem tms_bound (l : List ByteArray) (q : ByteArray) : 0 ≤ tms l q ∧ tms l q ≤ l.length := by
  induction l with
  | nil => simp [tms]
  | cons x l ih => simp only [tms, List.length_cons]; split <;> omega
theorem tms_take {l : List ByteArray} {k : Nat} {x : ByteArray} (h : l[k]? = some x) (q : ByteArray) : tms (l.take (k + 1)) q = tms (l.take k) q + (if x = q then 1 else 0) := by
  rw [List.take_add_one, h, tms_append]; simp [tms]
theorem uni_k (a b : Hv) : (uni a b).k = a.k := by unfold uni; split <;> rfl
theorem uni_n (a b : Hv) : (uni a b).n = a.n + b.n := by unfold uni; split <;> rfl
theorem Two.lo {a b : Hv} (h : Two a b) (q : ByteArray) : look (uni a b).l q ≤ look a.l q + look b.l q := by
  rw [← tog_look]
  by_cases hl : ((tog a.l b.l).length : Int) ≤ a.k
  · unfold uni; rw [if_pos hl]; exact Int.le_refl _
  · have hv := (h.thr hl).2.1
    unfold uni; rw [if_neg hl]
    exact (les_look h.asc h.pos (by omega) q).1
theorem Two.hi {a b : Hv} (h : Two a b) (q : ByteArray) : look a.l q + look b.l q + (a.off + b.off) ≤ look (uni a b).l q + (uni a b).off := by
  rw [← tog_look]
  by_cases hl : ((tog a.l b.l).length : Int) ≤ a.k
  · unfold uni; rw [if_pos hl]; exact Int.le_refl _
  · have hv := (h.thr hl).2.1
    unfold uni; rw [if_neg hl]
    have := (les_look h.asc h.pos (v := P.thr (tog a.l b.l) (a.k.toNat + 1)) (by omega) q).2
    show _ ≤ look (les (tog a.l b.l) (P.thr (tog a.l b.l) (a.k.toNat + 1))) q + (a.off + b.off + P.thr (tog a.l b.l) (a.k.toNat + 1))
    omega
theorem uni_keys {a b : Hv} {x : Ct} (hx : x ∈ (uni a b).l) : (∃ y ∈ a.l, y.1 = x.1) ∨ ∃ y ∈ b.l, y.1 = x.1 := by
  unfold uni at hx
  split at hx
  · exact tog_mem hx
  · obtain ⟨y, hy, e⟩ := les_mem hx
    rw [← e]; exact tog_mem hy
theorem uni_off {a b : Hv} (h : ((tog a.l b.l).length : Int) ≤ a.k) : (uni a b).off = a.off + b.off := by unfold uni; rw [if_pos h]
/-- Lists without doubles are no longer than what they lie in. -/
theorem nodup_le {α : Type} {M C : List α} (hn : M.Nodup) (hs : ∀ x ∈ M, x ∈ C) : M.length ≤ C.length := by
  classical
  induction M generalizing C with
  | nil => simp
  | cons x M ih =>
    obtain ⟨h1, h2⟩ := List.nodup_cons.1 hn
    have hx := hs x (by simp)
    have h3 := ih (C := C.erase x) h2 fun y hy => (List.mem_erase_of_ne (fun (e : y = x) => h1 (by rw [← e]; exact hy))).2 (hs y (by simp [hy]))
    rw [List.length_erase_of_mem hx] at h3
    have := List.length_pos_of_mem hx
    simp only [List.length_cons]; omega
theorem asc_keys {l : List Ct} (h : Asc l) : (l.map (·.1)).Nodup := List.pairwise_map.2 (h.imp fun h => kl_ne h)
/-- What a tally tells of the keys that came. -/
structure Rep (K : Int) (S : Hv) (l : List ByteArray) : Prop where
  good : Good S
  k : S.k = K
  n : S.n = l.length
  lo : ∀ q, look S.l q ≤ tms l q
  hi : ∀ q, tms l q ≤ look S.l q + S.off
  keys : ∀ x ∈ S.l, x.1 ∈ l
  few : ∀ C : List ByteArray, (∀ x ∈ l, x ∈ C) → (C.length : Int) ≤ K → S.off = 0
def empS (k : Int) : Hv := ⟨k, [], 0, 0⟩
theorem empS_good {k : Int} (h : 1 ≤ k ∧ k ≤ 64) : Good (empS k) :=
  ⟨h.1, h.2, by simp [empS]; omega, ⟨fun x hx => by simp [empS] at hx, by simp [empS]⟩, by simp [empS], by simp [empS], by simp [empS], by simp [empS], by simp [empS, tot]⟩
theorem rep_emp {k : Int} (h : 1 ≤ k ∧ k ≤ 64) : Rep k (empS k) [] :=
  ⟨empS_good h, rfl, rfl, fun q => by simp [empS, look, tms], fun q => by simp [empS, look, tms], fun x hx => by simp [empS] at hx, fun C _ _ => rfl⟩
theorem Rep.ad {k : Int} {S : Hv} {l : List ByteArray} (h : Rep k S l) {key : ByteArray} (hk : key.size ≤ 40) (hn : S.n ≠ 1000000000) : Rep k (adH S key) (l ++ [key]) := by
  have h2 := two_one h.good hk hn
  refine ⟨h2.good, (uni_k _ _).trans h.k, ?_, fun q => ?_, fun q => ?_, fun x hx => ?_, fun C hC hl => ?_⟩
  · show (uni S (one S.k key)).n = _
    rw [uni_n, h.n]; simp [one]
  · have := h2.lo q
    have h3 := h.lo q
    rw [tms_append]
    have e : look (one S.k key).l q = tms [key] q := by simp [one, look, tms]
    show look (uni S (one S.k key)).l q ≤ _
    omega
  · have := h2.hi q
    have h3 := h.hi q
    rw [tms_append]
    have e : look (one S.k key).l q = tms [key] q := by simp [one, look, tms]
    have e2 : (one S.k key).off = 0 := rfl
    show _ ≤ look (uni S (one S.k key)).l q + (uni S (one S.k key)).off
    omega
  · rcases uni_keys hx with ⟨y, hy, e⟩ | ⟨y, hy, e⟩
    · rw [← e]; simp [h.keys y hy]
    · simp [one] at hy; rw [← e, hy]; simp
  · have h0 := h.few C (fun x hx => hC x (by simp [hx])) hl
    have hlen : ((tog S.l (one S.k key).l).length : Int) ≤ S.k := by
      have h4 := nodup_le (asc_keys h2.asc) (C := C) fun x hx => by
        obtain ⟨y, hy, e⟩ := List.mem_map.1 hx
        rcases tog_mem hy with ⟨z, hz, e2⟩ | ⟨z, hz, e2⟩
        · rw [← e, ← e2]; exact hC _ (by simp [h.keys z hz])
        · simp [one] at hz; rw [← e, ← e2, hz]; exact hC _ (by simp)
      rw [List.length_map] at h4
      have h5 := h.k
      omega
    show (uni S (one S.k key)).off = 0
    rw [uni_off hlen, h0]; rfl
/-- Two that are merged tell of all together. -/
theorem rep_merge {k : Int} {A B : Hv} {l m : List ByteArray} (ha : Rep k A l) (hb : Rep k B m) (h : Two A B) : (uni A B).n = l.length + m.length ∧ (∀ q, look (uni A B).l q ≤ tms l q + tms m q) ∧ ∀ q, tms l q + tms m q ≤ look (uni A B).l q + (uni A B).off := by
  refine ⟨by rw [uni_n, ha.n, hb.n], fun q => ?_, fun q => ?_⟩
  · have := h.lo q; have := ha.lo q; have := hb.lo q; omega
  · have := h.hi q; have := ha.hi q; have := hb.hi q; omega
/-- What goes wrong where keys are tallied. -/
def Bad (k : Int) (l : List ByteArray) : Prop := k < 1 ∨ 64 < k ∨ (∃ x ∈ l, 40 < x.size) ∨ 1000000000 < l.length
end P
end Go.Proofs.Ytcaidfffmllfeaa
