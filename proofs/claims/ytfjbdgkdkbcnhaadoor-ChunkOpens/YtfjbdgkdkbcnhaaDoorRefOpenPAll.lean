/- Several texts in one. -/
import Derived.Test.YtfjbdgkdkbcnhaaDoorCtakeAll
import Derived.Test.YtfjbdgkdkbcnhaaDoorStrPAll
/- Rows of signs that the call owns, and how far the document's own Opened has come. -/
namespace Go.Proofs.YtfjbdgkdkbcnhaaDoor
open Go.RowKit
set_option linter.unusedVariables false
theorem infoT : (Tryd.prog.info? 9).map (fun i => (i.zero, i.size, i.bytes)) = some (some (.string ByteArray.empty), 1, 16) := by kernel_rfl
/-- Signs that the call itself laid in a row. -/
abbrev OwnT (w : World) (base : Nat) (v : Value) (L : List (List Bool)) : Prop := w.ownsRow base 9 1 v L.length (L.map fun bs => Value.string (P.strB bs))
theorem OwnT.below {w w' : World} {base B : Nat} {v : Value} {l : List (List Bool)} (h : OwnT w base v l) (hb : Below B w w') (hB : w.heap.size ≤ B) : OwnT w' base v l := by
  obtain ⟨h1, h2⟩ := h
  refine ⟨h1, ?_⟩
  rcases h2 with h2 | ⟨g, cap, cur, rfl, hg, hh, r⟩
  · exact .inl h2
  · exact .inr ⟨g, cap, cur, rfl, hg, by rw [hb.block g (Nat.lt_of_lt_of_le (Array.getElem?_eq_some_iff.1 hh).1 hB)]; exact hh, r⟩
theorem OwnT.nil (w : World) (base : Nat) : OwnT w base (.slice none 0 0) [] := World.ownsRow_nil _ _ _ _
theorem OwnT.two {w : World} {base : Nat} {v : Value} {x y : List Bool} (h : OwnT w base v [x, y]) : ∃ g cap, v = .slice (some ⟨g, 0, none⟩) 2 cap ∧ g < w.heap.size ∧ w.cell? ⟨g, 0, none⟩ = some (.string (P.strB x)) ∧ w.cell? ⟨g, 1, none⟩ = some (.string (P.strB y)) := by
  obtain ⟨h1, h2⟩ := h
  rcases h2 with ⟨_, h0⟩ | ⟨g, cap, cur, rfl, hb, hg, hn, hm, hs, ht⟩
  · simp at h0
  · have key : ∀ i u, i < 2 → ([x, y].map fun bs => Value.string (P.strB bs))[i]? = some u → cur[i]? = some u := by
      intro i u hi hu
      have h3 : (cur.toList.take ([x, y].length * 1))[i]? = ([x, y].map fun bs => Value.string (P.strB bs))[i]? := by rw [ht]
      rw [List.getElem?_take, if_pos (by simpa using hi), hu] at h3
      rw [← Array.getElem?_toList, h3]
    have e0 := key 0 _ (by omega) rfl
    have e1 := key 1 _ (by omega) rfl
    exact ⟨g, cap, rfl, (Array.getElem?_eq_some_iff.1 hg).1, by simp [World.cell?, hg, e0], by simp [World.cell?, hg, e1]⟩
/-- 'append(b, s)' of signs to a row of the call's own. -/
theorem wp_app1T {ops : Array Oper} {rest : List Oper} {o : Oper} {a : Act} {Q : Exit → Act → World → Prop} (hgd : o.guard = none) (s x : Operand)
    (ho : o.op = .call { callee := .builtin .append, args := #[s, x], argTypes := #[62, 62] })
    (B base : Nat) (w0 w : World) (v : Value) (acc : List (List Bool)) (y : List Bool) (hown : OwnT w base v acc) (hb : Below B w0 w) (hB : B ≤ base) (hs : a.eval s = v)
    (hx : a.eval x = .slice (some ⟨w.heap.size, 0, none⟩) 1 1) (hlen : acc.length ≤ 1000) (hbase : base ≤ w.heap.size)
    (h : ∀ v' w', OwnT w' base v' (acc ++ [y]) → Below B w0 w' → w.heap.size < w'.heap.size → w.grownBy w' v.ownBlock → wpList Tryd.prog ops Q rest (a.put o.dst v') w') :
    wpList Tryd.prog ops Q (o :: rest) a (w.alloc (.cells #[.string (P.strB y)] 9)) := by
  obtain ⟨i0, hi, hz0, hz1, hz2⟩ := info_parts infoT
  refine wpList_append_own _ hgd s x 62 ho base 9 i0 (.string ByteArray.empty) 1 16 Tryd.underlying62 hi hz0 hz1 hz2 rfl (by omega) v _ _ hs (hown.alloc _) ⟨w.heap.size, 0, none⟩ 1 1 [.string (P.strB y)] hx rfl ?_ ?_ ?_ ?_ ?_ ?_
  · intro j u hj
    match j, hj with
    | 0, hj => simp at hj; subst hj; simp [Addr.add]
  · intro u hu; simp at hu; subst hu; rfl
  · unfold maxLen; omega
  · omega
  · simp; omega
  · intro v' w' ho' hg _
    refine h v' w' ?_ ((hb.alloc (by omega) _).grown hg (by simp; omega) ?_) ?_ ((World.grownBy_alloc w _ _).trans hg)
    · have e1 : (acc ++ [y]).length = acc.length + 1 := by simp
      have e2 : (acc ++ [y]).map (fun bs => Value.string (P.strB bs)) = acc.map (fun bs => Value.string (P.strB bs)) ++ [.string (P.strB y)] := by simp
      show w'.ownsRow base 9 1 v' (acc ++ [y]).length ((acc ++ [y]).map (fun bs => Value.string (P.strB bs)))
      rw [e1, e2]; exact ho'
    · intro j hj; have := (hown.lt j hj).1; omega
    · have := hg.size; simp at this; omega
namespace P
/-- How far Opened has come: i bits are read, r is left. -/
def OSt (b : List Int) (i : Nat) (L : List (List Bool)) (r : List Int) : Prop :=
  (i = 0 ∧ L = [] ∧ r = b) ∨ (i = 1 ∧ ∃ bs, L = [bs] ∧ tkB b = some (pack bs, bs.length, r)) ∨ (i = 2 ∧ ∃ bs cs r1, L = [bs, cs] ∧ tkB b = some (pack bs, bs.length, r1) ∧ tkB r1 = some (pack cs, cs.length, r))
theorem OSt.next {b : List Int} {i : Nat} {L : List (List Bool)} {r r' : List Int} {cs : List Bool} (h : OSt b i L r) (hi : i < 2) (hk : tkB r = some (pack cs, cs.length, r')) : OSt b (i + 1) (L ++ [cs]) r' := by
  rcases h with ⟨rfl, rfl, rfl⟩ | ⟨rfl, bs, rfl, h1⟩ | ⟨rfl, _⟩
  · exact .inr (.inl ⟨rfl, cs, rfl, hk⟩)
  · exact .inr (.inr ⟨rfl, bs, cs, r, rfl, h1, hk⟩)
  · omega
theorem OSt.no {b : List Int} {i : Nat} {L : List (List Bool)} {r : List Int} (h : OSt b i L r) (hi : i < 2) (hk : ∀ cs r', tkB r ≠ some (pack cs, cs.length, r')) : ∀ l, ¬ Sd b l := by
  intro l hl
  obtain ⟨r0, p1, p2, _⟩ := hl.parts
  rcases h with ⟨rfl, rfl, rfl⟩ | ⟨rfl, bs, rfl, h1⟩ | ⟨rfl, _⟩
  · exact hk _ _ p1
  · rw [h1] at p1
    simp only [Option.some.injEq, Prod.mk.injEq] at p1
    obtain ⟨_, _, rfl⟩ := p1
    exact hk _ _ p2
  · omega
theorem OSt.len {b : List Int} {i : Nat} {L : List (List Bool)} {r : List Int} (h : OSt b i L r) : L.length = i := by
  rcases h with ⟨rfl, rfl, rfl⟩ | ⟨rfl, bs, rfl, h1⟩ | ⟨rfl, bs, cs, r1, rfl, _⟩ <;> rfl
/-- Samples whose bytes these are have these bits. -/
theorem two_bits {b r1 r : List Int} {bs cs : List Bool} (h1 : tkB b = some (pack bs, bs.length, r1)) (h2 : tkB r1 = some (pack cs, cs.length, r)) {l : List (Int × Int)} (hl : Sd b l) : D.Isx bs (tms l) ∧ X.Isx cs (mss l) ∧ r = [] := by
  obtain ⟨r0, p1, p2, p3, p4⟩ := hl.parts
  rw [h1] at p1
  simp only [Option.some.injEq, Prod.mk.injEq] at p1
  obtain ⟨e1, e2, rfl⟩ := p1
  rw [h2] at p2
  simp only [Option.some.injEq, Prod.mk.injEq] at p2
  obtain ⟨e3, e4, e5⟩ := p2
  exact ⟨⟨p3.1, p3.2.1, pack_inj e2 e1⟩, ⟨p4.1, p4.2.1, pack_inj e4 e3⟩, e5⟩
/-- What is told in the end. -/
def OAns (b : List Int) (m : List (Int × Int)) (ok : Bool) : Prop := I64s m ∧ m.length ≤ 1000 ∧ (ok = true → Sd b m) ∧ (ok = false → ∀ l, ¬ Sd b l)
theorem OAns.none {b : List Int} (h : ∀ l, ¬ Sd b l) : OAns b [] false := ⟨(fun s hs => by cases hs), by simp, (fun h => by cases h), fun _ => h⟩
end P
end Go.Proofs.YtfjbdgkdkbcnhaaDoor
