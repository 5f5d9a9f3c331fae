/- Several texts in one. -/
import Derived.Test.YtpinhcbkfjoopaaRows
/- Plain: sieves: the least numbers, each once; what two sieves keep; a quotient bit by bit. -/
namespace Go.Proofs.Ytpinhcbkfjoopaa
namespace P
set_option linter.unusedVariables false
abbrev Up (l : List Int) : Prop := l.Pairwise (· < ·)
/-- A number put in where it belongs, if it isn't there. -/
def insU : List Int → Int → List Int
  | [], x => [x]
  | y :: l, x => if x < y then x :: y :: l else if x = y then y :: l else y :: insU l x
theorem insU_mem (l : List Int) (x z : Int) : z ∈ insU l x ↔ z ∈ l ∨ z = x := by
  induction l with
  | nil => simp [insU]
  | cons y l ih =>
    simp only [insU]
    split
    · simp only [List.mem_cons]; constructor
      · rintro (h | h | h)
        · exact .inr h
        · exact .inl (.inl h)
        · exact .inl (.inr h)
      · rintro ((h | h) | h)
        · exact .inr (.inl h)
        · exact .inr (.inr h)
        · exact .inl h
    · split
      · rename_i h; subst h; simp only [List.mem_cons]; constructor
        · exact fun h => .inl h
        · rintro (h | h)
          · exact h
          · exact .inl h
      · simp only [List.mem_cons, ih]; constructor
        · rintro (h | h | h)
          · exact .inl (.inl h)
          · exact .inl (.inr h)
          · exact .inr h
        · rintro ((h | h) | h)
          · exact .inl h
          · exact .inr (.inl h)
          · exact .inr (.inr h)
theorem insU_up {l : List Int} (h : Up l) (x : Int) : Up (insU l x) := by
  induction l with
  | nil => simp [insU]
  | cons y l ih =>
    obtain ⟨h1, h2⟩ := List.pairwise_cons.1 h
    simp only [insU]
    split
    · rename_i hx
      refine List.pairwise_cons.2 ⟨fun z hz => ?_, h⟩
      rcases List.mem_cons.1 hz with rfl | hz
      · exact hx
      · have := h1 z hz; omega
    · split
      · exact h
      · refine List.pairwise_cons.2 ⟨fun z hz => ?_, ih h2⟩
        rcases (insU_mem l x z).1 hz with hz | rfl
        · exact h1 z hz
        · omega
theorem insU_len (l : List Int) (x : Int) : (insU l x).length ≤ l.length + 1 ∧ l.length ≤ (insU l x).length := by
  induction l with
  | nil => simp [insU]
  | cons y l ih => simp only [insU]; split; · simp
                   split <;> simp <;> omega
theorem insU_has {l : List Int} (h : Up l) {x : Int} (hx : x ∈ l) : insU l x = l := by
  induction l with
  | nil => cases hx
  | cons y l ih =>
    obtain ⟨h1, h2⟩ := List.pairwise_cons.1 h
    simp only [insU]
    rcases List.mem_cons.1 hx with rfl | hx
    · rw [if_neg (by omega), if_pos rfl]
    · have := h1 x hx
      rw [if_neg (by omega), if_neg (by omega), ih h2 hx]
theorem insU_new {l : List Int} {x : Int} (hx : x ∉ l) : (insU l x).length = l.length + 1 := by
  induction l with
  | nil => simp [insU]
  | cons y l ih =>
    simp only [insU]
    split
    · simp
    · rw [if_neg (fun e => hx (by simp [e]))]
      simp [ih fun h => hx (by simp [h])]
/-- A number more, and of these the k least ones. -/
def siv (k : Nat) (l : List Int) (x : Int) : List Int := (insU l x).take k
/-- What two keep. -/
def sivs (k : Nat) (a b : List Int) : List Int := b.foldl (siv k) a
theorem up_nodup {l : List Int} (h : Up l) : l.Nodup := h.imp fun h => by omega
theorem up_ext {a b : List Int} (ha : Up a) (hb : Up b) (h : ∀ x, x ∈ a ↔ x ∈ b) : a = b := by
  induction a generalizing b with
  | nil =>
    cases b with
    | nil => rfl
    | cons y b => exact absurd ((h y).2 (by simp)) (by simp)
  | cons x a ih =>
    cases b with
    | nil => exact absurd ((h x).1 (by simp)) (by simp)
    | cons y b =>
      obtain ⟨a1, a2⟩ := List.pairwise_cons.1 ha
      obtain ⟨b1, b2⟩ := List.pairwise_cons.1 hb
      have e : x = y := by
        rcases List.mem_cons.1 ((h x).1 (by simp)) with e | hx
        · exact e
        · rcases List.mem_cons.1 ((h y).2 (by simp)) with e | hy
          · exact e.symm
          · have := b1 x hx; have := a1 y hy; omega
      subst e
      refine congrArg _ (ih a2 b2 fun z => ⟨fun hz => ?_, fun hz => ?_⟩)
      · rcases List.mem_cons.1 ((h z).1 (by simp [hz])) with e | h2
        · have := a1 z hz; omega
        · exact h2
      · rcases List.mem_cons.1 ((h z).2 (by simp [hz])) with e | h2
        · have := b1 z hz; omega
        · exact h2
theorem up_take {l : List Int} (h : Up l) (k : Nat) : ∀ z ∈ l, z ∈ l.take k ∨ (k ≤ l.length ∧ ∀ y ∈ l.take k, y < z) := by
  intro z hz
  rw [← List.take_append_drop k l] at hz
  rcases List.mem_append.1 hz with hz | hz
  · exact .inl hz
  · right
    have h1 := h
    rw [← List.take_append_drop k l] at h1
    refine ⟨?_, fun y hy => (List.pairwise_append.1 h1).2.2 y hy z hz⟩
    rcases Nat.lt_or_ge l.length k with h2 | h2
    · rw [List.drop_eq_nil_of_le (by omega)] at hz; cases hz
    · exact h2
/-- The k least of what has a property. -/
structure Bot (k : Nat) (Q : Int → Prop) (l : List Int) : Prop where
  up : Up l
  len : l.length ≤ k
  all : ∀ x ∈ l, Q x
  low : ∀ x, Q x → x ∈ l ∨ (l.length = k ∧ ∀ y ∈ l, y < x)
theorem nodup_sub {M C : List Int} (hn : M.Nodup) (hs : ∀ x ∈ M, x ∈ C) : M.length ≤ C.length := by
  induction M generalizing C with
  | nil => simp
  | cons x M ih =>
    obtain ⟨h1, h2⟩ := List.nodup_cons.1 hn
    have hx := hs x (by simp)
    have h3 := ih (C := C.erase x) h2 fun y hy => (List.mem_erase_of_ne (fun (e : y = x) => h1 (by rw [← e]; exact hy))).2 (hs y (by simp [hy]))
    rw [List.length_erase_of_mem hx] at h3
    have := List.length_pos_of_mem hx
    simp only [List.length_cons]; omega
theorem Bot.sub {k : Nat} {Q : Int → Prop} {a b : List Int} (ha : Bot k Q a) (hb : Bot k Q b) : ∀ x ∈ a, x ∈ b := by
  intro x hx
  rcases hb.low x (ha.all x hx) with h | ⟨h1, h2⟩
  · exact h
  · exfalso
    have hxb : x ∉ b := fun h => by have := h2 x h; omega
    have hs : ∀ y ∈ x :: b, y ∈ a := fun y hy => by
      rcases List.mem_cons.1 hy with rfl | hy
      · exact hx
      · rcases ha.low y (hb.all y hy) with h | ⟨_, h4⟩
        · exact h
        · have := h4 x hx; have := h2 y hy; omega
    have := nodup_sub (List.nodup_cons.2 ⟨hxb, up_nodup hb.up⟩) hs
    have := ha.len
    simp at *; omega
/-- They are just those. -/
theorem Bot.one {k : Nat} {Q : Int → Prop} {a b : List Int} (ha : Bot k Q a) (hb : Bot k Q b) : a = b := up_ext ha.up hb.up fun x => ⟨ha.sub hb x, hb.sub ha x⟩
theorem Bot.iff {k : Nat} {Q R : Int → Prop} {a : List Int} (ha : Bot k Q a) (h : ∀ x, Q x ↔ R x) : Bot k R a := ⟨ha.up, ha.len, fun x hx => (h x).1 (ha.all x hx), fun x hx => ha.low x ((h x).2 hx)⟩
theorem Bot.self {k : Nat} {a : List Int} (h1 : Up a) (h2 : a.length ≤ k) : Bot k (· ∈ a) a := ⟨h1, h2, fun x hx => hx, fun x hx => .inl hx⟩
theorem Bot.add {k : Nat} {Q : Int → Prop} {a : List Int} (h : Bot k Q a) (x : Int) : Bot k (fun z => Q z ∨ z = x) (siv k a x) := by
  have hu := insU_up h.up x
  have hl := insU_len a x
  refine ⟨hu.sublist (List.take_sublist _ _), by unfold siv; rw [List.length_take]; omega, fun z hz => ?_, fun z hz => ?_⟩
  · rcases (insU_mem a x z).1 (List.mem_of_mem_take hz) with hz | hz
    · exact .inl (h.all z hz)
    · exact .inr hz
  · have main : z ∈ insU a x → z ∈ siv k a x ∨ ((siv k a x).length = k ∧ ∀ y ∈ siv k a x, y < z) := fun hz => by
      rcases up_take hu k z hz with h1 | ⟨h1, h2⟩
      · exact .inl h1
      · exact .inr ⟨by unfold siv; rw [List.length_take]; omega, h2⟩
    rcases hz with hz | rfl
    · rcases h.low z hz with h1 | ⟨h1, h2⟩
      · exact main ((insU_mem a x z).2 (.inl h1))
      · right
        have hk : (siv k a x).length = k := by unfold siv; rw [List.length_take]; omega
        refine ⟨hk, fun y hy => ?_⟩
        rcases (insU_mem a x y).1 (List.mem_of_mem_take hy) with h3 | h3
        · exact h2 y h3
        · by_cases hx : x ∈ a
          · rw [h3]; exact h2 x hx
          · have hn := insU_new hx
            have hlast : ∃ u ∈ a, u ∉ siv k a x := by
              refine Classical.byContradiction fun hc => ?_
              have hall : ∀ u ∈ x :: a, u ∈ siv k a x := fun u hu => by
                rcases List.mem_cons.1 hu with e | hu
                · rw [h3] at hy; rw [e]; exact hy
                · exact Classical.byContradiction fun h5 => hc ⟨u, hu, h5⟩
              have := nodup_sub (List.nodup_cons.2 ⟨hx, up_nodup h.up⟩) hall
              simp at this; omega
            obtain ⟨u, hu1, hu2⟩ := hlast
            rcases up_take hu k u ((insU_mem a x u).2 (.inl hu1)) with h5 | ⟨_, h5⟩
            · exact absurd h5 hu2
            · have := h5 y hy; have := h2 u hu1; omega
    · exact main ((insU_mem a z z).2 (.inr rfl))
theorem Bot.merge {k : Nat} {Q : Int → Prop} {a : List Int} (h : Bot k Q a) (b : List Int) : Bot k (fun z => Q z ∨ z ∈ b) (sivs k a b) := by
  induction b generalizing a Q with
  | nil => exact h.iff fun x => by simp
  | cons x b ih =>
    refine (ih (h.add x)).iff fun z => ?_
    simp only [List.mem_cons]
    constructor
    · rintro ((h | h) | h)
      · exact .inl h
      · exact .inr (.inl h)
      · exact .inr (.inr h)
    · rintro (h | h | h)
      · exact .inl (.inl h)
      · exact .inl (.inr h)
      · exact .inr h
/-- What two sieves keep is what both were made of. -/
theorem Bot.both {k : Nat} {Q R : Int → Prop} {a b : List Int} (ha : Bot k Q a) (hb : Bot k R b) : Bot k (fun z => Q z ∨ R z) (sivs k a b) := by
  have h := ha.merge b
  refine ⟨h.up, h.len, fun x hx => (h.all x hx).elim .inl fun h => .inr (hb.all x h), fun x hx => ?_⟩
  rcases hx with hx | hx
  · exact h.low x (.inl hx)
  · rcases hb.low x hx with h1 | ⟨h1, h2⟩
    · exact h.low x (.inr h1)
    · by_cases hm : x ∈ sivs k a b
      · exact .inl hm
      · right
        -- all of b lie below x: so do the k least of both
        have hall : ∀ y ∈ sivs k a b, y < x := fun y hy => Classical.byContradiction fun hn => by
          have hxy : x < y := by
            rcases Int.lt_or_le x y with h3 | h3
            · exact h3
            · have : y = x := by omega
              exact absurd (this ▸ hy) hm
          have hs : ∀ u ∈ y :: b, u ∈ sivs k a b := fun u hu => by
            rcases List.mem_cons.1 hu with rfl | hu
            · exact hy
            · rcases h.low u (.inr hu) with h4 | ⟨_, h4⟩
              · exact h4
              · have := h4 y hy; have := h2 u hu; omega
          have hyb : y ∉ b := fun h5 => by have := h2 y h5; omega
          have := nodup_sub (List.nodup_cons.2 ⟨hyb, up_nodup hb.up⟩) hs
          have := h.len
          simp at *; omega
        refine ⟨?_, hall⟩
        refine Classical.byContradiction fun hk => ?_
        have hs : ∀ u ∈ b, u ∈ sivs k a b := fun u hu => (h.low u (.inr hu)).elim id fun h4 => absurd h4.1 hk
        have := nodup_sub (up_nodup hb.up) hs
        have := h.len
        omega
/-- A step of the long division. -/
theorem div_step (n d : Nat) (hd : 0 < d) (i : Nat) : n * 2 ^ (i + 1) / d = 2 * (n * 2 ^ i / d) + (if d ≤ 2 * (n * 2 ^ i % d) then 1 else 0) ∧ n * 2 ^ (i + 1) % d = 2 * (n * 2 ^ i % d) - (if d ≤ 2 * (n * 2 ^ i % d) then d else 0) := by
  have e : n * 2 ^ (i + 1) = 2 * (n * 2 ^ i) := by rw [Nat.pow_succ]; rw [← Nat.mul_assoc]; exact Nat.mul_comm _ _
  rw [e]
  generalize n * 2 ^ i = m
  have h1 := Nat.div_add_mod m d
  have h2 := Nat.mod_lt m hd
  generalize hq : m / d = q at *
  generalize hr : m % d = r at *
  have e2 : 2 * m = d * (2 * q) + 2 * r := by rw [← h1, Nat.mul_add]; rw [Nat.mul_left_comm]
  by_cases hc : d ≤ 2 * r
  · rw [if_pos hc, if_pos hc]
    have e3 : 2 * m = d * (2 * q + 1) + (2 * r - d) := by rw [Nat.mul_add, Nat.mul_one]; omega
    rw [e3]
    exact ⟨by rw [Nat.mul_add_div hd, Nat.div_eq_of_lt (by omega)], by rw [Nat.mul_add_mod, Nat.mod_eq_of_lt (by omega)]⟩
  · rw [if_neg hc, if_neg hc]
    rw [e2]
    exact ⟨by rw [Nat.mul_add_div hd, Nat.div_eq_of_lt (by omega)], by rw [Nat.mul_add_mod, Nat.mod_eq_of_lt (by omega)]; rfl⟩
end P
end Go.Proofs.Ytpinhcbkfjoopaa
