/- Plain: how the document's own MatchesAt reads; what its loops do. -/
import Derived.Test.YthdccpgjiogiaaaRefFl
namespace Go.Proofs.Ythdccpgjiogiaaa
open Go.RowKit
set_option linter.unusedVariables false
namespace P
/-- A name's end: the first sign byte. -/
def sgB1 (c : UInt8) : Bool := c == 61 || c == 33
theorem nm_not {c : UInt8} (h : nmB c = true) : sgB1 c = false := by
  unfold sgB1
  rw [Bool.or_eq_false_iff]
  constructor
  · rw [beq_eq_false_iff_ne]; intro e; rw [e] at h; revert h; decide
  · rw [beq_eq_false_iff_ne]; intro e; rw [e] at h; revert h; decide
/-- How far MatchesAt has come, if the text is that of matches (and r behind it). -/
def At (s : List UInt8) (i : Nat) (out : List Mt) : Prop := ∀ m r, chkM m = 0 → s = txt m ++ r → ∃ m', m = out ++ m' ∧ (out = [] → s.drop i = jb m ++ 125 :: r) ∧ (out ≠ [] → s.drop i = jt m' ++ 125 :: r)
theorem At.start (s : List UInt8) : At s 1 [] := by
  intro m r _ e
  refine ⟨m, rfl, fun _ => ?_, fun h => absurd rfl h⟩
  rw [e]
  unfold txt
  simp
/-- Where the next match begins, behind its comma. -/
def AtM (s : List UInt8) (i : Nat) (out : List Mt) : Prop := ∀ m r, chkM m = 0 → s = txt m ++ r → ∃ x m', m = out ++ x :: m' ∧ s.drop i = mtx x ++ (jt m' ++ 125 :: r)
theorem At.first {s : List UInt8} {i : Nat} (h : At s i []) (hne : ∀ t, s.drop i ≠ 125 :: t) : AtM s i [] := by
  intro m r hm e
  obtain ⟨m', e1, h1, _⟩ := h m r hm e
  have h2 := h1 rfl
  cases m with
  | nil => rw [jb_nil] at h2; exact absurd h2 (hne _)
  | cons x m =>
    refine ⟨x, m, rfl, ?_⟩
    rw [h2]
    simp [jb, jt]
theorem At.comma {s : List UInt8} {i : Nat} {out : List Mt} (h : At s i out) (ho : out ≠ []) (hne : ∀ t, s.drop i ≠ 125 :: t) : AtM s (i + 1) out := by
  intro m r hm e
  obtain ⟨m', e1, _, h1⟩ := h m r hm e
  have h2 := h1 ho
  cases m' with
  | nil => exact absurd h2 (hne _)
  | cons x m' =>
    refine ⟨x, m', e1, ?_⟩
    rw [jt_cons] at h2
    have : s.drop (i + 1) = (s.drop i).drop 1 := by rw [List.drop_drop]
    rw [this, h2]
    simp
theorem At.nocomma {s : List UInt8} {i : Nat} {out : List Mt} (h : At s i out) (ho : out ≠ []) (hne : ∀ t, s.drop i ≠ 125 :: t) (hc : ∀ t, s.drop i ≠ 44 :: t) : ∀ m r, chkM m = 0 → s ≠ txt m ++ r := by
  intro m r hm e
  obtain ⟨m', e1, _, h1⟩ := h m r hm e
  have h2 := h1 ho
  cases m' with
  | nil => exact hne _ h2
  | cons x m' => rw [jt_cons] at h2; exact hc _ h2
/-- Behind the name: it is nm. -/
def AtN (s : List UInt8) (i : Nat) (out : List Mt) (nm : List UInt8) : Prop := ∀ m r, chkM m = 0 → s = txt m ++ r → ∃ x m', m = out ++ x :: m' ∧ dl x.2.1 = nm ∧ s.drop i = sgK x.1 ++ 34 :: (esc (dl x.2.2) ++ 34 :: (jt m' ++ 125 :: r))
theorem AtM.name {s : List UInt8} {i j : Nat} {out : List Mt} {nm : List UInt8} (h : AtM s i out) (hd : s.drop i = nm ++ s.drop j) (hn : nm.all (fun c => !sgB1 c) = true) (he : ∀ c t, s.drop j = c :: t → sgB1 c = true) : AtN s j out nm := by
  intro m r hm e
  obtain ⟨x, m', e1, h1⟩ := h m r hm e
  have hw : Wf x := chkM_wf hm x (by rw [e1]; simp)
  obtain ⟨_, a2⟩ := mtx_name hw (jt m' ++ 125 :: r)
  obtain ⟨c, t, hk, hc, hc'⟩ := sgK_head hw.2.1
  have hN : (s.drop i).takeWhile (fun c => !sgB1 c) = dl x.2.1 := by
    rw [h1]
    unfold mtx
    rw [hk, List.append_assoc, List.cons_append, List.cons_append]
    have hall : ∀ d ∈ dl x.2.1, (!sgB1 d) = true := fun d hd => by rw [nm_not (List.all_eq_true.1 hw.1 d hd)]; rfl
    rw [List.takeWhile_append_of_pos hall, List.takeWhile_cons, if_neg (by rcases hc' with rfl | rfl <;> decide), List.append_nil]
  have hM : (s.drop i).takeWhile (fun c => !sgB1 c) = nm := by
    rw [hd, List.takeWhile_append_of_pos (fun d hd => List.all_eq_true.1 hn d hd)]
    cases hj : s.drop j with
    | nil => simp
    | cons c t => rw [List.takeWhile_cons, if_neg (by rw [he c t hj]; decide), List.append_nil]
  have hnm : dl x.2.1 = nm := hN.symm.trans hM
  refine ⟨x, m', e1, hnm, ?_⟩
  rw [← h1, hd, hnm, List.drop_left] at a2
  exact a2
/-- Behind the sign and the first quote: the kind is k. -/
def AtQ (s : List UInt8) (i : Nat) (out : List Mt) (nm : List UInt8) (k : Int) : Prop := ∀ m r, chkM m = 0 → s = txt m ++ r → ∃ x m', m = out ++ x :: m' ∧ dl x.2.1 = nm ∧ x.1 = k ∧ s.drop i = esc (dl x.2.2) ++ 34 :: (jt m' ++ 125 :: r)
theorem AtN.sign {s : List UInt8} {i : Nat} {out : List Mt} {nm : List UInt8} {k : Int} (h : AtN s i out nm) (hk : Kd k) (hp : Lib.hasPrefix (s.drop i) (sgK k ++ [34]) = true) : AtQ s (i + (sgK k ++ [34]).length) out nm k := by
  intro m r hm e
  obtain ⟨x, m', e1, h1, h2⟩ := h m r hm e
  have hw : Wf x := chkM_wf hm x (by rw [e1]; simp)
  unfold Lib.hasPrefix at hp
  rw [List.isPrefixOf_iff_prefix] at hp
  obtain ⟨t, ht⟩ := hp
  have e2 : sgK k ++ 34 :: t = sgK x.1 ++ 34 :: (esc (dl x.2.2) ++ 34 :: (jt m' ++ 125 :: r)) := by rw [← h2, ← ht]; simp
  obtain ⟨e3, e4⟩ := sgK_inj hk hw.2.1 e2
  refine ⟨x, m', e1, h1, e3.symm, ?_⟩
  rw [← List.drop_drop, ← ht, List.drop_left, e4]
theorem AtN.nosign {s : List UInt8} {i : Nat} {out : List Mt} {nm : List UInt8} (h : AtN s i out nm) (hp : ∀ k, Kd k → Lib.hasPrefix (s.drop i) (sgK k ++ [34]) = false) : ∀ m r, chkM m = 0 → s ≠ txt m ++ r := by
  intro m r hm e
  obtain ⟨x, m', e1, h1, h2⟩ := h m r hm e
  have hw : Wf x := chkM_wf hm x (by rw [e1]; simp)
  have := hp x.1 hw.2.1
  rw [h2, show sgK x.1 ++ 34 :: (esc (dl x.2.2) ++ 34 :: (jt m' ++ 125 :: r)) = (sgK x.1 ++ [34]) ++ (esc (dl x.2.2) ++ 34 :: (jt m' ++ 125 :: r)) by simp, pre_self] at this
  cases this
/-- Within the value: v is read. -/
def AtV (s : List UInt8) (i : Nat) (out : List Mt) (nm : List UInt8) (k : Int) (v : List UInt8) : Prop := ∀ m r, chkM m = 0 → s = txt m ++ r → ∃ x m' v', m = out ++ x :: m' ∧ dl x.2.1 = nm ∧ x.1 = k ∧ dl x.2.2 = v ++ v' ∧ s.drop i = esc v' ++ 34 :: (jt m' ++ 125 :: r)
theorem AtQ.val {s : List UInt8} {i : Nat} {out : List Mt} {nm : List UInt8} {k : Int} (h : AtQ s i out nm k) : AtV s i out nm k [] := by
  intro m r hm e
  obtain ⟨x, m', e1, h1, h2, h3⟩ := h m r hm e
  exact ⟨x, m', dl x.2.2, e1, h1, h2, rfl, h3⟩
theorem AtV.plain {s : List UInt8} {i : Nat} {out : List Mt} {nm v t : List UInt8} {k : Int} {c : UInt8} (h : AtV s i out nm k v) (hd : s.drop i = c :: t) (h1 : c ≠ 34) (h2 : c ≠ 92) : AtV s (i + 1) out nm k (v ++ [c]) := by
  intro m r hm e
  obtain ⟨x, m', v', e1, a1, a2, a3, a4⟩ := h m r hm e
  cases v' with
  | nil => rw [hd] at a4; simp [esc] at a4; exact absurd a4.1 h1
  | cons d v' =>
    rw [hd, esc_cons, List.append_assoc] at a4
    rcases enc_cases a4 with ⟨h, _⟩ | ⟨h, _, _, h10⟩
    · exact absurd h h2
    · subst h
      rw [encX h1 h2 h10] at a4
      refine ⟨x, m', v', e1, a1, a2, by rw [a3]; simp, ?_⟩
      rw [← List.drop_drop, hd]
      simp at a4 ⊢
      exact a4
theorem AtV.back {s : List UInt8} {i : Nat} {out : List Mt} {nm v t : List UInt8} {k : Int} {c : UInt8} (h : AtV s i out nm k v) (hd : s.drop i = 92 :: c :: t) : AtV s (i + 2) out nm k (v ++ [if c = 110 then 10 else c]) := by
  intro m r hm e
  obtain ⟨x, m', v', e1, a1, a2, a3, a4⟩ := h m r hm e
  cases v' with
  | nil => rw [hd] at a4; simp [esc] at a4
  | cons d v' =>
    rw [hd, esc_cons, List.append_assoc] at a4
    have key : t = esc v' ++ 34 :: (jt m' ++ 125 :: r) ∧ d = (if c = 110 then 10 else c) := by
      unfold enc at a4
      by_cases d1 : d = 34
      · rw [if_pos d1] at a4; simp at a4; rw [a4.1, d1]; exact ⟨a4.2, by decide⟩
      by_cases d2 : d = 92
      · rw [if_neg d1, if_pos d2] at a4; simp at a4; rw [a4.1, d2]; exact ⟨a4.2, by decide⟩
      by_cases d3 : d = 10
      · rw [if_neg d1, if_neg d2, if_pos d3] at a4; simp at a4; rw [a4.1, d3]; exact ⟨a4.2, by decide⟩
      rw [if_neg d1, if_neg d2, if_neg d3] at a4
      simp at a4
      exact absurd a4.1.symm d2
    obtain ⟨k1, k2⟩ := key
    refine ⟨x, m', v', e1, a1, a2, by rw [a3, k2]; simp, ?_⟩
    have : s.drop (i + 2) = ((s.drop i).drop 1).drop 1 := by rw [List.drop_drop, List.drop_drop]
    rw [this, hd]
    exact k1
/-- A text that ends within a value is none. -/
theorem AtV.ends {s : List UInt8} {i : Nat} {out : List Mt} {nm v : List UInt8} {k : Int} (h : AtV s i out nm k v) (hd : s.drop i = [] ∨ s.drop i = [92]) : ∀ m r, chkM m = 0 → s ≠ txt m ++ r := by
  intro m r hm e
  obtain ⟨x, m', v', e1, a1, a2, a3, a4⟩ := h m r hm e
  rcases hd with hd | hd
  · rw [hd] at a4
    have := congrArg List.length a4
    simp at this
  · rw [hd] at a4
    cases v' with
    | nil => simp [esc] at a4
    | cons d v' =>
      rw [esc_cons, List.append_assoc] at a4
      rcases enc_cases a4 with ⟨_, c1, h, _⟩ | ⟨_, _, h, _⟩
      · simp at h
      · exact h rfl
/-- The value's end. -/
theorem AtV.done {s : List UInt8} {i : Nat} {out : List Mt} {t : List UInt8} {k : Int} {n v : ByteArray} (h : AtV s i out (dl n) k (dl v)) (hd : s.drop i = 34 :: t) : At s (i + 1) (out ++ [(k, n, v)]) := by
  intro m r hm e
  obtain ⟨x, m', v', e1, a1, a2, a3, a4⟩ := h m r hm e
  cases v' with
  | nil =>
    refine ⟨m', ?_, fun h => absurd h (by simp), fun _ => ?_⟩
    · rw [e1]
      obtain ⟨xk, xn, xv⟩ := x
      simp only at a1 a2 a3
      rw [List.append_nil] at a3
      rw [dl_inj a1, a2, dl_inj a3]
      simp
    · rw [← List.drop_drop, a4]
      simp [esc]
  | cons d v' =>
    rw [hd, esc_cons, List.append_assoc] at a4
    rcases enc_cases a4 with ⟨h, _⟩ | ⟨_, h, _⟩
    · simp at h
    · exact absurd rfl h
/-- What MatchesAt answers. -/
def Ma (s : List UInt8) (m : List Mt) (r : List UInt8) (ok : Bool) : Prop :=
  (ok = true ∧ chkM m = 0 ∧ s = txt m ++ r ∧ ∀ m' r', chkM m' = 0 → s = txt m' ++ r' → m' = m ∧ r' = r) ∨ (ok = false ∧ m = [] ∧ r = [] ∧ ∀ m' r', chkM m' = 0 → s ≠ txt m' ++ r')
theorem Ma_no {s : List UInt8} (h : ∀ m' r', chkM m' = 0 → s ≠ txt m' ++ r') : Ma s [] [] false := .inr ⟨rfl, rfl, rfl, h⟩
theorem At.fin {s t : List UInt8} {i : Nat} {out : List Mt} (h : At s i out) (hd : s.drop i = 125 :: t) : ∀ m r, chkM m = 0 → s = txt m ++ r → m = out ∧ r = t := by
  intro m r hm e
  obtain ⟨m', e1, h1, h2⟩ := h m r hm e
  by_cases ho : out = []
  · have h3 := h1 ho
    rw [hd] at h3
    by_cases hne : m = []
    · rw [hne, jb_nil] at h3
      simp at h3
      exact ⟨by rw [hne, ho], h3.symm⟩
    · exact absurd h3.symm (jb_head (chkM_wf hm) hne _ _)
  · have h3 := h2 ho
    rw [hd] at h3
    have h4 := jt_end h3.symm
    rw [h4] at e1 h3
    simp [jt] at h3
    exact ⟨by rw [e1]; simp, h3.symm⟩
theorem At.over {s : List UInt8} {i : Nat} {out : List Mt} (h : At s i out) (hd : s.drop i = []) : ∀ m r, chkM m = 0 → s ≠ txt m ++ r := by
  intro m r hm e
  obtain ⟨m', e1, h1, h2⟩ := h m r hm e
  by_cases ho : out = []
  · have h3 := congrArg List.length (h1 ho)
    rw [hd] at h3
    simp at h3
  · have h3 := congrArg List.length (h2 ho)
    rw [hd] at h3
    simp at h3
theorem At.bad {s t : List UInt8} {i : Nat} {out : List Mt} (h : At s i out) (hd : s.drop i = 125 :: t) (hc : chkM out ≠ 0) : ∀ m r, chkM m = 0 → s ≠ txt m ++ r := by
  intro m r hm e
  obtain ⟨rfl, _⟩ := h.fin hd m r hm e
  exact hc hm
theorem At.other {s t : List UInt8} {i : Nat} {out : List Mt} (h : At s i out) (hd : s.drop i = 125 :: t) (hc : txt out ≠ s.take (i + 1)) : ∀ m r, chkM m = 0 → s ≠ txt m ++ r := by
  intro m r hm e
  obtain ⟨rfl, rfl⟩ := h.fin hd m r hm e
  apply hc
  have h1 : s.drop (i + 1) = r := by rw [← List.drop_drop, hd]; rfl
  have h2 : s.take (i + 1) ++ r = txt m ++ r := by rw [← h1, List.take_append_drop, h1]; exact e
  exact (List.append_cancel_right h2).symm
theorem At.ok {s t : List UInt8} {i : Nat} {out : List Mt} (h : At s i out) (hd : s.drop i = 125 :: t) (hm : chkM out = 0) (hc : txt out = s.take (i + 1)) : Ma s out (s.drop (i + 1)) true := by
  have h1 : s.drop (i + 1) = t := by rw [← List.drop_drop, hd]; rfl
  refine .inl ⟨rfl, hm, by rw [hc, List.take_append_drop], fun m' r' hm' e => ?_⟩
  rw [h1]
  exact h.fin hd m' r' hm' e
end P
def MaA (s : ByteArray) (w : World) (e : Ending) (w' : World) : Prop := ∃ (v : Value) (m : List P.Mt) (r : ByteArray) (ok : Bool), e = .returned (.tuple #[v, .string r, .bool ok]) ∧ OwnM w' w.heap.size v m ∧ P.Ma (P.dl s) m (P.dl r) ok ∧ MtOk m ∧ Below w.heap.size w w'
theorem maA {s : ByteArray} {w w' : World} {e : Ending} (v : Value) (m : List P.Mt) (r : ByteArray) (ok : Bool) (h1 : e = .returned (.tuple #[v, .string r, .bool ok])) (h2 : OwnM w' w.heap.size v m) (h3 : P.Ma (P.dl s) m (P.dl r) ok) (h4 : MtOk m) (h5 : Below w.heap.size w w') : MaA s w e w' := ⟨v, m, r, ok, h1, h2, h3, h4, h5⟩
/-- What is owned stays, whatever is written into a block made later. -/
theorem OwnX.only {α : Type} {e : α → List Value} {k : Nat} {t : TypeId} {w wx : World} {base : Nat} {v : Value} {l : List α} {o : Obj} (h : OwnX e k t w base v l) (ho : Only w.heap.size (w.alloc o) wx) : OwnX e k t wx base v l := by
  obtain ⟨h1, h2⟩ := h
  refine ⟨h1, ?_⟩
  rcases h2 with h2 | ⟨g, cap, cur, rfl, hg, hh, r⟩
  · exact .inl h2
  · refine .inr ⟨g, cap, cur, rfl, hg, ?_, r⟩
    have hlt : g < w.heap.size := (Array.getElem?_eq_some_iff.1 hh).1
    exact ((ho.block g (by omega)).trans (((Below.refl _ w).alloc (Nat.le_refl _) o).block g hlt)).trans hh
/-- Kinds and lengths of what MatchesAt has put together. -/
def MaOk (n : Nat) (m : List P.Mt) : Prop := ∀ x ∈ m, P.Kd x.1 ∧ x.2.1.size ≤ n ∧ x.2.2.size ≤ n
theorem MaOk.mt {n : Nat} {m : List P.Mt} (h : MaOk n m) (hn : n ≤ 1048576) : MtOk m := by
  intro x hx
  obtain ⟨⟨a, b⟩, c, d⟩ := h x hx
  exact ⟨⟨by omega, by omega⟩, by omega, by omega⟩
end Go.Proofs.Ythdccpgjiogiaaa
