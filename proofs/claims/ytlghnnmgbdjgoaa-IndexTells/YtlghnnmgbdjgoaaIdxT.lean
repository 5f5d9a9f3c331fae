/- Rows of texts: sorted, searched, held against each other, one text put behind. -/
import Derived.Test.YtlghnnmgbdjgoaaIdxV
namespace Go.Proofs.Ytlghnnmgbdjgoaa
open Go.RowKit Go.Maps Go.ChangeMaps Go.Sort
set_option linter.unusedVariables false
theorem infoStr : (Try.prog.info? 9).map (fun i => (i.zero, i.size, i.bytes)) = some (some (.string ⟨#[]⟩), 1, 16) := by kernel_rfl
def enc1 (u : List UInt8) : List Value := [encStr u]
theorem flat_enc (ss : List (List UInt8)) : ss.flatMap enc1 = ss.map encStr := by
  induction ss with
  | nil => rfl
  | cons x l ih => rw [List.flatMap_cons, ih]; rfl
theorem OwnS.x {w : World} {base : Nat} {v : Value} {ss : List (List UInt8)} (h : OwnS w base v ss) : OwnX enc1 1 9 w base v ss := by
  show w.ownsRow _ _ _ _ _ _
  rw [flat_enc]; exact h
theorem OwnS.ofX {w : World} {base : Nat} {v : Value} {ss : List (List UInt8)} (h : OwnX enc1 1 9 w base v ss) : OwnS w base v ss := by
  have h1 : w.ownsRow base 9 1 v ss.length (ss.flatMap enc1) := h
  rw [flat_enc] at h1; exact h1
/-- 'append(b, x)' of one text to a row of the call's own. -/
theorem wp_oneS {ops : Array Oper} {rest : List Oper} {o : Oper} {a : Act} {Q : Exit → Act → World → Prop} (hgd : o.guard = none) (s x : Operand)
    (ho : o.op = .call { callee := .builtin .append, args := #[s, x], argTypes := #[30, 30] })
    (B base : Nat) (w0 w : World) (v : Value) (acc : List (List UInt8)) (y : ByteArray) (hown : OwnS w base v acc) (hb : Below B w0 w) (hB : B ≤ base) (hs : a.eval s = v)
    (hx : a.eval x = .slice (some ⟨w.heap.size, 0, none⟩) 1 1) (hlen : (acc.length + 1) * 16 ≤ 140737488355328) (hbase : base ≤ w.heap.size) (hBw : B ≤ w.heap.size)
    (h : ∀ v' w', OwnS w' base v' (acc ++ [y.data.toList]) → Below B w0 w' → w.heap.size < w'.heap.size → w.grownBy w' v.ownBlock → wpList Try.prog ops Q rest (a.put o.dst v') w') :
    wpList Try.prog ops Q (o :: rest) a (w.alloc (.cells #[.string y] 9)) :=
  wp_oneX (e := enc1) (k := 1) (bt := 16) (tS := 30) (tE := 9) (z := .string ⟨#[]⟩) (fun _ => rfl) (fun u v hv => by simp [enc1] at hv; subst hv; rfl) (by decide) (by decide) rfl Try.underlying30 infoStr hgd s x ho B base w0 w v acc y.data.toList #[.string y] (by cases y; simp [enc1, encStr])
    hown.x hb hB hs hx hlen hbase hBw fun v' w' h1 h2 h3 h4 => h v' w' (OwnS.ofX h1) h2 h3 h4
theorem sortS_own (w : World) (base : Nat) (v : Value) (l : List (List UInt8)) (h : OwnS w base v l) (hl : l.length < 4611686018427387904) :
    Calls Try.prog 12 #[v] w fun e w' => e = .returned (.tuple #[]) ∧ OwnS w' base v (srtS l) ∧ w.grownBy w' v.ownBlock := by
  rcases h.2 with ⟨rfl, h0⟩ | ⟨g, cap, cur, rfl, hb, hg, hn, hm, hs, ht⟩
  · obtain rfl : l = [] := List.length_eq_zero_iff.1 h0
    refine (Try.slices_Sort_string_none none 0 w).mono ?_
    rintro e w' ⟨rfl, rfl⟩
    exact ⟨rfl, by simpa [srtS] using h, ⟨rfl, rfl, rfl, Nat.le_refl _, fun _ _ _ => rfl⟩⟩
  · refine (Try.slices_Sort_string g 0 cap l w (holds_of_block hg (by simpa using ht)) (Array.getElem?_eq_some_iff.1 hg).1 hl).mono ?_
    rintro e w' ⟨rfl, n, os, rfl⟩
    refine ⟨rfl, ?_, grownBy_sorted _⟩
    have := ownsRow_sorted (n := n) (os := os) (srtS_len l) hb hg hn hm hs
    show World.ownsRow _ _ _ _ _ (srtS l).length _
    rw [srtS_len]; exact this
abbrev bas (ss : List (List UInt8)) : List ByteArray := ss.map fun u => ⟨u.toArray⟩
theorem OwnS.cells {w : World} {base : Nat} {v : Value} {ss : List (List UInt8)} (h : OwnS w base v ss) : ∃ a cap, v = .slice a ss.length cap ∧ ss.length ≤ cap ∧ cap ≤ maxLen ∧ (ss = [] ∨ ∃ g, a = some ⟨g, 0, none⟩ ∧ ∀ j, j < (bas ss).length → w.cell? ⟨g, 0 + j, none⟩ = some (.string ((bas ss).getD j ByteArray.empty))) := by
  obtain ⟨a, cap, hv, h1, h2, hp⟩ := h.place
  refine ⟨a, cap, hv, h1, h2, ?_⟩
  cases ss with
  | nil => exact .inl rfl
  | cons x l =>
    right
    obtain ⟨g, ha, _⟩ := hp 0 x rfl
    refine ⟨g, ha, fun j hj => ?_⟩
    have hj2 : j < (x :: l).length := by simpa [bas] using hj
    obtain ⟨g2, ha2, _, hc, _⟩ := hp j (x :: l)[j] (List.getElem?_eq_getElem hj2)
    rw [ha] at ha2
    simp at ha2
    subst ha2
    have e : (bas (x :: l))[j]? = some ⟨((x :: l)[j]).toArray⟩ := by rw [bas, List.getElem?_map, List.getElem?_eq_getElem hj2]; rfl
    rw [Nat.zero_add, hc, List.getD_eq_getElem?_getD, e]; rfl
theorem containsS_any (v : Value) (ss : List (List UInt8)) (base : Nat) (x : ByteArray) (w : World) (h : OwnS w base v ss) :
    Calls Try.prog 11 #[v, .string x] w fun e w' => e = .returned (.bool (ss.contains x.data.toList)) ∧ w' = w := by
  obtain ⟨a, cap, rfl, h1, h2, hc⟩ := h.cells
  unfold maxLen at h2
  rcases hc with rfl | ⟨g, rfl, hc⟩
  · refine (Try.slices_Contains_string_empty a cap x w).mono ?_
    rintro e w' ⟨rfl, rfl⟩
    exact ⟨rfl, rfl⟩
  · refine (Try.slices_Contains_string g 0 ss.length cap (bas ss) x w (by simp [bas]) (by omega) hc).mono ?_
    rintro e w' ⟨rfl, rfl⟩
    refine ⟨ret_bool ?_, rfl⟩
    rw [List.take_of_length_le (by simp [bas]), Bool.eq_iff_iff, Lib.containsS_iff, List.contains_iff_mem, List.mem_map]
    constructor
    · rintro ⟨u, hu, rfl⟩; simpa using hu
    · intro hu; exact ⟨_, hu, ba_data x⟩
theorem equalS_same (v1 v2 : Value) (ss : List (List UInt8)) (b1 b2 : Nat) (w : World) (h1 : OwnS w b1 v1 ss) (h2 : OwnS w b2 v2 ss) :
    Calls Try.prog 13 #[v1, v2] w fun e w' => e = .returned (.bool true) ∧ Below w.heap.size w w' := by
  obtain ⟨a1, c1, rfl, l1, m1, hc1⟩ := h1.cells
  obtain ⟨a2, c2, rfl, l2, m2, hc2⟩ := h2.cells
  unfold maxLen at m1 m2
  rcases hc1 with rfl | ⟨g1, rfl, hc1⟩
  · refine (Try.slices_Equal_string_empty a1 a2 c1 0 c2 w (by omega)).mono ?_
    rintro e w' ⟨rfl, rfl⟩
    exact ⟨rfl, Below.refl _ _⟩
  · rcases hc2 with rfl | ⟨g2, rfl, hc2⟩
    · refine (Try.slices_Equal_string_empty _ a2 c1 0 c2 w (by omega)).mono ?_
      rintro e w' ⟨rfl, rfl⟩
      exact ⟨rfl, Below.refl _ _⟩
    · refine (Try.slices_Equal_string g1 0 ss.length c1 g2 0 ss.length c2 (bas ss) (bas ss) w (by simp [bas]) (by simp [bas]) (by omega) (by omega) hc1 hc2).mono ?_
      rintro e w' ⟨rfl, q, rfl⟩
      exact ⟨by simp, ⟨rfl, rfl, rfl, Nat.le_refl _, fun _ _ => rfl⟩⟩
/-- Two lists of the values are sorted to one. -/
theorem Vals.same {ev : List Ev} {s : ByteArray} {a b : List (List UInt8)} (ha : Vals ev s a) (hb : Vals ev s b) : srtS a = srtS b :=
  mergeSort_of_perm ((List.perm_ext_iff_of_nodup ha.1 hb.1).2 fun u => by rw [ha.2 u, hb.2 u])
/-- The values of a name among labels, each where it stands first. -/
def putV (s : ByteArray) (acc : List (List UInt8)) (y : P.Lb) : List (List UInt8) := if y.1 = s ∧ ¬ y.2.data.toList ∈ acc then acc ++ [y.2.data.toList] else acc
def valsIn (s : ByteArray) (acc : List (List UInt8)) (l : List P.Lb) : List (List UInt8) := l.foldl (putV s) acc
def valsTo (s : ByteArray) (L : List (List P.Lb)) : Nat → List (List UInt8)
  | 0 => []
  | k + 1 => valsIn s (valsTo s L k) (L.getD k [])
theorem valsIn_take {s : ByteArray} {acc : List (List UInt8)} {l : List P.Lb} {k : Nat} {x : P.Lb} (h : l[k]? = some x) : valsIn s acc (l.take (k + 1)) = putV s (valsIn s acc (l.take k)) x := by
  unfold valsIn
  rw [List.take_add_one, h, List.foldl_append]; rfl
theorem putV_facts {s : ByteArray} {acc : List (List UInt8)} {y : P.Lb} (h : acc.Nodup) : (putV s acc y).Nodup ∧ (∀ u, u ∈ putV s acc y ↔ u ∈ acc ∨ (y.1 = s ∧ y.2.data.toList = u)) ∧ (putV s acc y).length ≤ acc.length + 1 := by
  unfold putV
  split
  · rename_i hc
    refine ⟨?_, ?_, by simp⟩
    · rw [List.nodup_append]
      refine ⟨h, by simp, fun a ha b hb => ?_⟩
      simp at hb
      subst hb
      exact fun e => hc.2 (e ▸ ha)
    · intro u
      rw [List.mem_append]
      simp only [List.mem_singleton]
      constructor
      · rintro (h | h)
        · exact .inl h
        · exact .inr ⟨hc.1, h.symm⟩
      · rintro (h | h)
        · exact .inl h
        · exact .inr h.2.symm
  · rename_i hc
    refine ⟨h, fun u => ⟨.inl, fun hu => ?_⟩, by omega⟩
    rcases hu with hu | ⟨h1, h2⟩
    · exact hu
    · subst h2
      exact Classical.byContradiction fun hn => hc ⟨h1, hn⟩
theorem valsIn_facts {s : ByteArray} {acc : List (List UInt8)} {l : List P.Lb} (h : acc.Nodup) : (valsIn s acc l).Nodup ∧ (∀ u, u ∈ valsIn s acc l ↔ u ∈ acc ∨ ∃ y ∈ l, y.1 = s ∧ y.2.data.toList = u) ∧ (valsIn s acc l).length ≤ acc.length + l.length := by
  induction l generalizing acc with
  | nil => exact ⟨h, fun u => by simp [valsIn], by simp [valsIn]⟩
  | cons x l ih =>
    obtain ⟨h1, h2, h3⟩ := putV_facts (s := s) (y := x) h
    obtain ⟨i1, i2, i3⟩ := ih h1
    have e : valsIn s acc (x :: l) = valsIn s (putV s acc x) l := rfl
    rw [e]
    refine ⟨i1, fun u => ?_, by simp only [List.length_cons]; omega⟩
    rw [i2 u, h2 u]
    simp only [List.mem_cons, exists_eq_or_imp, or_assoc]
theorem valsTo_facts (s : ByteArray) (L : List (List P.Lb)) (n : Nat) (hl : ∀ i, i < n → (L.getD i []).length ≤ 10) : Vals (P.evTo L n) s (valsTo s L n) ∧ (valsTo s L n).length ≤ 10 * n := by
  have key : (valsTo s L n).Nodup ∧ (∀ u, u ∈ valsTo s L n ↔ ∃ i, i < n ∧ ∃ y ∈ L.getD i [], y.1 = s ∧ y.2.data.toList = u) ∧ (valsTo s L n).length ≤ 10 * n := by
    induction n with
    | zero => exact ⟨List.nodup_nil, fun u => by simp [valsTo], by simp [valsTo]⟩
    | succ n ih =>
      obtain ⟨h1, h2, h3⟩ := ih fun i hi => hl i (by omega)
      obtain ⟨i1, i2, i3⟩ := valsIn_facts (s := s) (l := L.getD n []) h1
      have := hl n (by omega)
      refine ⟨i1, fun u => ?_, by rw [valsTo]; omega⟩
      rw [valsTo, i2 u, h2 u]
      constructor
      · rintro (⟨i, hi, h⟩ | h)
        · exact ⟨i, by omega, h⟩
        · exact ⟨n, by omega, h⟩
      · rintro ⟨i, hi, h⟩
        rcases Nat.lt_or_ge i n with h4 | h4
        · exact .inl ⟨i, h4, h⟩
        · obtain rfl : i = n := by omega
          exact .inr h
  refine ⟨⟨key.1, fun u => ?_⟩, key.2.2⟩
  rw [key.2.1 u]
  constructor
  · rintro ⟨i, hi, y, hy, rfl, rfl⟩
    refine List.ne_nil_of_mem (a := (i : Int)) ?_
    rw [P.mem_nums, P.mem_evTo]
    refine ⟨i, hi, rfl, ?_⟩
    rw [ba_data]; exact hy
  · intro h
    obtain ⟨x, hx⟩ := List.exists_mem_of_ne_nil _ h
    rw [P.mem_nums, P.mem_evTo] at hx
    obtain ⟨i, hi, _, hm⟩ := hx
    exact ⟨i, hi, _, hm, rfl, by simp⟩
end Go.Proofs.Ytlghnnmgbdjgoaa
