/- Plain: names, labels, matches, their texts, and that a text tells one list of matches alone. -/
import Derived.Test.YtlghnnmgbdjgoaaRows
import Derived.Lib.Strings
import Derived.Lib.Bytealg
import Derived.WideShapes
namespace Go.Proofs.Ytlghnnmgbdjgoaa
namespace P
set_option linter.unusedVariables false
/-- The bytes of a text. -/
abbrev dl (s : ByteArray) : List UInt8 := s.data.toList
theorem dl_inj {a b : ByteArray} (h : dl a = dl b) : a = b := WideShapes.bytes_inj h
theorem dl_size (s : ByteArray) : s.size = (dl s).length := Lib.size_eq s
theorem dl_extract (s : ByteArray) (a b : Nat) : dl (s.extract a b) = ((dl s).drop a).take (b - a) := Lib.extract_data s a b
theorem dl_app (a b : ByteArray) : dl (a ++ b) = dl a ++ dl b := by simp [dl]

def dig (c : UInt8) : Bool := decide (48 ≤ c.toNat) && decide (c.toNat ≤ 57)
def low (c : UInt8) : Bool := decide (97 ≤ c.toNat) && decide (c.toNat ≤ 122)
/-- A byte that may stand in a name. -/
def nmB (c : UInt8) : Bool := dig c || (decide (c.toNat = 95) || low c)
/-- A name. -/
def goodN (s : List UInt8) : Bool := !(s.isEmpty || decide (20 < s.length) || dig (s.headD 0)) && s.all nmB
abbrev Lb := ByteArray × ByteArray
abbrev Mt := Int × ByteArray × ByteArray
/-- The text a is not above the text b, as the model reckons it. -/
def leS (a b : ByteArray) : Bool := Op.bytesLess a.toList b.toList || a.toList == b.toList

def enc (c : UInt8) : List UInt8 := if c = 34 then [92, 34] else if c = 92 then [92, 92] else if c = 10 then [92, 110] else [c]
def esc (l : List UInt8) : List UInt8 := l.flatMap enc
def sgK (k : Int) : List UInt8 := if k = 1 then [61] else if k = 2 then [33, 61] else if k = 3 then [61, 94] else if k = 4 then [61, 126] else []
/-- A match's text. -/
def mtx (x : Mt) : List UInt8 := dl x.2.1 ++ (sgK x.1 ++ (34 :: (esc (dl x.2.2) ++ [34])))
/-- Matches' texts, a comma ahead of each. -/
def jt (m : List Mt) : List UInt8 := m.flatMap fun x => 44 :: mtx x
def jb (m : List Mt) : List UInt8 := (jt m).drop 1
/-- The text of matches. -/
def txt (m : List Mt) : List UInt8 := 123 :: (jb m ++ [125])
def asM (l : List Lb) : List Mt := l.map fun x => (1, x.1, x.2)

theorem jt_app (a b : List Mt) : jt (a ++ b) = jt a ++ jt b := by simp [jt]
theorem jt_one (x : Mt) : jt [x] = 44 :: mtx x := by simp [jt]
theorem jt_cons (x : Mt) (m : List Mt) : jt (x :: m) = 44 :: (mtx x ++ jt m) := by simp [jt]
theorem jt_jb {m : List Mt} (h : m ≠ []) : jt m = 44 :: jb m := by
  cases m with
  | nil => exact absurd rfl h
  | cons x m => simp [jb, jt]
theorem jb_nil : jb [] = [] := rfl
theorem jb_one (x : Mt) : jb [x] = mtx x := by simp [jb, jt]
theorem jb_snoc {m : List Mt} (h : m ≠ []) (x : Mt) : jb (m ++ [x]) = jb m ++ 44 :: mtx x := by
  have e := jt_jb (m := m ++ [x]) (by simp)
  rw [jt_app, jt_jb h, jt_one] at e
  simp at e
  exact e.symm
theorem esc_app (a b : List UInt8) : esc (a ++ b) = esc a ++ esc b := by simp [esc]
theorem esc_cons (c : UInt8) (l : List UInt8) : esc (c :: l) = enc c ++ esc l := by simp [esc]
theorem esc_one (c : UInt8) : esc [c] = enc c := by simp [esc]
theorem enc_len (c : UInt8) : 1 ≤ (enc c).length ∧ (enc c).length ≤ 2 := by unfold enc; split <;> (try split) <;> (try split) <;> simp
theorem esc_len (l : List UInt8) : (esc l).length ≤ 2 * l.length := by
  induction l with
  | nil => simp [esc]
  | cons c l ih => have := enc_len c; rw [esc_cons]; simp; omega

theorem enc_inj {c d : UInt8} {r r' : List UInt8} (h : enc c ++ r = enc d ++ r') : c = d ∧ r = r' := by
  unfold enc at h
  by_cases c1 : c = 34 <;> by_cases c2 : c = 92 <;> by_cases c3 : c = 10 <;> by_cases d1 : d = 34 <;> by_cases d2 : d = 92 <;> by_cases d3 : d = 10 <;> simp_all
theorem enc_end {c : UInt8} {r r' : List UInt8} : enc c ++ r ≠ 34 :: r' := by
  intro h
  unfold enc at h
  by_cases c1 : c = 34 <;> by_cases c2 : c = 92 <;> by_cases c3 : c = 10 <;> simp_all
/-- What has been read of a quoted text is its front. -/
theorem esc_front {a s v r : List UInt8} (h : esc a ++ s = esc v ++ 34 :: r) : ∃ v', v = a ++ v' ∧ s = esc v' ++ 34 :: r := by
  induction a generalizing v with
  | nil => exact ⟨v, rfl, by simpa [esc] using h⟩
  | cons c a ih =>
    cases v with
    | nil =>
      rw [esc_cons, List.append_assoc] at h
      exact absurd h enc_end
    | cons d v =>
      rw [esc_cons, esc_cons, List.append_assoc, List.append_assoc] at h
      obtain ⟨rfl, h2⟩ := enc_inj h
      obtain ⟨v', rfl, h3⟩ := ih h2
      exact ⟨v', rfl, h3⟩
theorem esc_inj {v v' r r' : List UInt8} (h : esc v ++ 34 :: r = esc v' ++ 34 :: r') : v = v' ∧ r = r' := by
  obtain ⟨u, rfl, h2⟩ := esc_front h
  cases u with
  | nil => simp [esc] at h2; exact ⟨by simp, h2⟩
  | cons c u =>
    rw [esc_cons, List.append_assoc] at h2
    exact absurd h2.symm enc_end

/-- What is told at the front of a text within quotes: n bytes tell c; none if n is 0. -/
def Tb (s : List UInt8) (c : UInt8) (n : Nat) : Prop := (n = 0 ∧ ∀ d r, s ≠ enc d ++ r) ∨ (0 < n ∧ n ≤ s.length ∧ s = enc c ++ s.drop n)
/-- A quoted text, behind its first quote: the value v, and r behind it. -/
def Qd (s v r : List UInt8) : Prop := s = esc v ++ 34 :: r

/-- Signs. -/
def Kd (k : Int) : Prop := 1 ≤ k ∧ k ≤ 4
theorem sgK_inj {k k' : Int} (hk : Kd k) (hk' : Kd k') {r r' : List UInt8} (h : sgK k ++ 34 :: r = sgK k' ++ 34 :: r') : k = k' ∧ r = r' := by
  obtain ⟨a, b⟩ := hk
  obtain ⟨a', b'⟩ := hk'
  have e : k = 1 ∨ k = 2 ∨ k = 3 ∨ k = 4 := by omega
  have e' : k' = 1 ∨ k' = 2 ∨ k' = 3 ∨ k' = 4 := by omega
  rcases e with rfl | rfl | rfl | rfl <;> rcases e' with rfl | rfl | rfl | rfl <;> simp [sgK] at h ⊢ <;> exact h
theorem sgK_head {k : Int} (hk : Kd k) : ∃ c t, sgK k = c :: t ∧ nmB c = false ∧ (c = 61 ∨ c = 33) := by
  obtain ⟨a, b⟩ := hk
  have e : k = 1 ∨ k = 2 ∨ k = 3 ∨ k = 4 := by omega
  rcases e with rfl | rfl | rfl | rfl
  · exact ⟨61, [], rfl, by decide, by decide⟩
  · exact ⟨33, [61], rfl, by decide, by decide⟩
  · exact ⟨61, [94], rfl, by decide, by decide⟩
  · exact ⟨61, [126], rfl, by decide, by decide⟩

/-- A match of which no more is asked than that a text can tell it. -/
def Wf (x : Mt) : Prop := (dl x.2.1).all nmB = true ∧ Kd x.1 ∧ x.2.2.size ≤ 40
theorem takeWhile_name {n r : List UInt8} {c : UInt8} (h : n.all nmB = true) (hc : nmB c = false) : (n ++ c :: r).takeWhile nmB = n := by
  induction n with
  | nil => simp [hc]
  | cons d n ih =>
    simp only [List.all_cons, Bool.and_eq_true] at h
    simp [h.1, ih h.2]
/-- How a match's text begins: its name, then a byte that no name has. -/
theorem mtx_name {x : Mt} (hx : Wf x) (r : List UInt8) : (mtx x ++ r).takeWhile nmB = dl x.2.1 ∧ (mtx x ++ r).drop (dl x.2.1).length = sgK x.1 ++ 34 :: (esc (dl x.2.2) ++ 34 :: r) := by
  obtain ⟨c, t, hk, hc, _⟩ := sgK_head hx.2.1
  refine ⟨?_, ?_⟩
  · unfold mtx; rw [hk, List.append_assoc, List.cons_append, List.cons_append]
    exact takeWhile_name hx.1 hc
  · unfold mtx; simp
theorem mtx_inj {x y : Mt} (hx : Wf x) (hy : Wf y) {r r' : List UInt8} (h : mtx x ++ r = mtx y ++ r') : x = y ∧ r = r' := by
  obtain ⟨a1, a2⟩ := mtx_name hx r
  obtain ⟨b1, b2⟩ := mtx_name hy r'
  rw [h] at a1 a2
  have en : dl x.2.1 = dl y.2.1 := a1.symm.trans b1
  rw [en, b2] at a2
  obtain ⟨ek, e2⟩ := sgK_inj hy.2.1 hx.2.1 a2
  obtain ⟨ev, er⟩ := esc_inj e2
  obtain ⟨k, n, v⟩ := x
  obtain ⟨k', n', v'⟩ := y
  have e3 : n = n' := dl_inj en
  have e4 : k' = k := ek
  have e5 : v' = v := dl_inj ev
  subst e3 e4 e5
  exact ⟨rfl, er.symm⟩
theorem jt_end {m : List Mt} {r r' : List UInt8} (h : jt m ++ 125 :: r = 125 :: r') : m = [] := by
  cases m with
  | nil => rfl
  | cons x m => rw [jt_cons] at h; simp at h
/-- What has been read of matches is their front. -/
theorem jt_front {a m : List Mt} (ha : ∀ x ∈ a, Wf x) (hm : ∀ x ∈ m, Wf x) {s r : List UInt8} (h : jt a ++ s = jt m ++ 125 :: r) : (∃ m', m = a ++ m' ∧ s = jt m' ++ 125 :: r) := by
  induction a generalizing m with
  | nil => exact ⟨m, rfl, by simpa [jt] using h⟩
  | cons x a ih =>
    cases m with
    | nil => rw [jt_cons] at h; simp [jt] at h
    | cons y m =>
      rw [jt_cons, jt_cons] at h
      simp only [List.cons_append, List.cons.injEq, true_and, List.append_assoc] at h
      obtain ⟨rfl, h2⟩ := mtx_inj (ha _ (by simp)) (hm _ (by simp)) h
      obtain ⟨m', rfl, h3⟩ := ih (fun z hz => ha z (by simp [hz])) (fun z hz => hm z (by simp [hz])) h2
      exact ⟨m', rfl, h3⟩
theorem jt_inj {a m : List Mt} (ha : ∀ x ∈ a, Wf x) (hm : ∀ x ∈ m, Wf x) (h : jt a ++ [125] = jt m ++ [125]) : a = m := by
  obtain ⟨m', rfl, h2⟩ := jt_front ha hm h
  have := jt_end h2.symm
  simp [this]
theorem txt_jt {m : List Mt} (h : m ≠ []) {s : List UInt8} : 123 :: s = txt m ↔ 44 :: s = jt m ++ [125] := by
  unfold txt
  rw [jt_jb h]
  simp
theorem jb_head {m : List Mt} (hm : ∀ x ∈ m, Wf x) (h : m ≠ []) (r r' : List UInt8) : jb m ++ r ≠ 125 :: r' := by
  cases m with
  | nil => exact absurd rfl h
  | cons x m =>
    intro e
    have hx := hm x (by simp)
    obtain ⟨c, t, hk, hc, hc'⟩ := sgK_head hx.2.1
    have e1 : jb (x :: m) = mtx x ++ jt m := by simp [jb, jt]
    rw [e1] at e
    unfold mtx at e
    rw [hk] at e
    have hn := hx.1
    cases hd : dl x.2.1 with
    | nil =>
      rw [hd] at e
      simp at e
      rcases hc' with rfl | rfl <;> simp at e
    | cons d n =>
      rw [hd] at e hn
      simp at e hn
      rw [e.1] at hn
      exact absurd hn.1 (by decide)
theorem txt_inj {a m : List Mt} (ha : ∀ x ∈ a, Wf x) (hm : ∀ x ∈ m, Wf x) (h : txt a = txt m) : a = m := by
  by_cases h1 : a = []
  · by_cases h2 : m = []
    · rw [h1, h2]
    · rw [h1] at h
      unfold txt at h
      rw [jb_nil] at h
      exact absurd (List.cons.inj h).2.symm (jb_head hm h2 _ _)
  · by_cases h2 : m = []
    · rw [h2] at h
      unfold txt at h
      rw [jb_nil] at h
      exact absurd (List.cons.inj h).2 (jb_head ha h1 _ _)
    · have h3 := (txt_jt h2 (s := jb a ++ [125])).1 h
      rw [← List.cons_append, ← jt_jb h1] at h3
      exact jt_inj ha hm h3

/-- Check of labels, one by one, behind the name p. -/
def chkF : Option ByteArray → List Lb → Int
  | _, [] => 0
  | p, x :: l => if goodN (dl x.1) = false then 4 else if (p.any fun y => leS x.1 y) = true then 5 else if 40 < x.2.size then 2 else chkF (some x.1) l
def chk (l : List Lb) : Int := if 10 < l.length then 2 else chkF none l
instance (k : Int) : Decidable (Kd k) := inferInstanceAs (Decidable (_ ∧ _))
def chkMF : List Mt → Int
  | [] => 0
  | x :: l => if ¬ Kd x.1 then 1 else if goodN (dl x.2.1) = false then 4 else if 40 < x.2.2.size then 2 else chkMF l
def chkM (m : List Mt) : Int := if 10 < m.length then 2 else chkMF m
theorem chkMF_wf {m : List Mt} (h : chkMF m = 0) : ∀ x ∈ m, Wf x := by
  induction m with
  | nil => intro x hx; cases hx
  | cons y m ih =>
    unfold chkMF at h
    split at h
    · cases h
    · split at h
      · cases h
      · split at h
        · cases h
        · rename_i h1 h2 h3
          intro x hx
          rcases List.mem_cons.1 hx with rfl | hx
          · refine ⟨?_, by simpa using h1, by omega⟩
            simp only [Bool.not_eq_false, goodN, Bool.and_eq_true] at h2
            exact h2.2
          · exact ih h x hx
theorem chkM_wf {m : List Mt} (h : chkM m = 0) : ∀ x ∈ m, Wf x := by
  unfold chkM at h
  split at h
  · cases h
  · exact chkMF_wf h
theorem chkM_len {m : List Mt} (h : chkM m = 0) : m.length ≤ 10 := by
  unfold chkM at h
  split at h
  · cases h
  · omega
theorem chkF_as {p : Option ByteArray} {l : List Lb} (h : chkF p l = 0) : chkMF (asM l) = 0 := by
  induction l generalizing p with
  | nil => rfl
  | cons x l ih =>
    unfold chkF at h
    split at h
    · cases h
    · split at h
      · cases h
      · split at h
        · cases h
        · rename_i h1 h2 h3
          have e : asM (x :: l) = (1, x.1, x.2) :: asM l := rfl
          rw [e]
          unfold chkMF
          rw [if_neg (fun hn => hn (show Kd 1 by decide)), if_neg h1, if_neg h3]
          exact ih h
/-- Labels without an error are matches without one. -/
theorem chk_as {l : List Lb} (h : chk l = 0) : chkM (asM l) = 0 := by
  unfold chk at h
  split at h
  · cases h
  · unfold chkM
    rw [if_neg (by simpa [asM] using ‹¬ 10 < l.length›)]
    exact chkF_as h
theorem chk_len {l : List Lb} (h : chk l = 0) : l.length ≤ 10 := by
  unfold chk at h
  split at h
  · cases h
  · omega
theorem asM_inj {a b : List Lb} (h : asM a = asM b) : a = b := by
  have : ∀ l : List Lb, (asM l).map (fun x => (x.2.1, x.2.2)) = l := by
    intro l
    induction l with
    | nil => rfl
    | cons x l ih => simp [asM] at ih ⊢; exact ih
  rw [← this a, h, this b]
/-- The first of the labels that has that name: its value. -/
def valO (l : List Lb) (n : ByteArray) : ByteArray := match l.find? (fun x => x.1.toList == n.toList) with
  | some x => x.2
  | none => ByteArray.empty
end P
end Go.Proofs.Ytlghnnmgbdjgoaa
