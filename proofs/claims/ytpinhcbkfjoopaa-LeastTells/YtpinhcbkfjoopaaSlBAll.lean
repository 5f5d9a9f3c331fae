/- Several texts in one. -/
import Derived.Test.YtpinhcbkfjoopaaCatSAll
import Derived.Sort.AssemblyPlain
import Derived.CellFam
/- Rows of rows of bytes: what slices.Clone, Reverse and Concat answer of them. -/
namespace Go.Proofs.Ytpinhcbkfjoopaa
open Go.RowKit
set_option linter.unusedVariables false
/-- What rows of bytes hold that lie there. -/
def AllB (w : World) (vs : List SlH) (L : List (List Int)) : Prop := vs.length = L.length ∧ ∀ (j : Nat) (l : List Int), L[j]? = some l → ∃ x, vs[j]? = some x ∧ RowK .u8 w (slV x) l
theorem AllB.below {w w' : World} {B : Nat} {vs : List SlH} {L : List (List Int)} (h : AllB w vs L) (hb : Below B w w') (hB : w.heap.size ≤ B) : AllB w' vs L :=
  ⟨h.1, fun j l hl => by obtain ⟨x, h1, h2⟩ := h.2 j l hl; exact ⟨x, h1, h2.below hb hB⟩⟩
theorem AllB.app {w : World} {vs us : List SlH} {L M : List (List Int)} (h1 : AllB w vs L) (h2 : AllB w us M) : AllB w (vs ++ us) (L ++ M) := by
  refine ⟨by simp [h1.1, h2.1], fun j l hl => ?_⟩
  rcases Nat.lt_or_ge j L.length with h | h
  · rw [List.getElem?_append_left h] at hl
    rw [List.getElem?_append_left (by rw [h1.1]; exact h)]
    exact h1.2 j l hl
  · rw [List.getElem?_append_right h] at hl
    rw [List.getElem?_append_right (by rw [h1.1]; exact h), h1.1]
    exact h2.2 _ l hl
/-- A row that comes in, by where its rows lie. -/
theorem RowsB.parts {w : World} {v : Value} {L : List (List Int)} (h : RowsB w v L) : ∃ vs : List SlH, RowS w v vs ∧ AllB w vs L := by
  obtain ⟨a, cap, rfl, hc, hcase⟩ := h
  rcases hcase with rfl | ⟨b, off, rfl, hlt, hcell⟩
  · exact ⟨[], ⟨a, cap, rfl, hc, .inl rfl⟩, rfl, fun j l hl => by simp at hl⟩
  · have key : ∀ j, j < L.length → ∃ x : SlH, w.cell? ⟨b, off + j, none⟩ = some (slV x) ∧ ∃ l, L[j]? = some l ∧ RowK .u8 w (slV x) l := by
      intro j hj
      obtain ⟨vj, h1, h2⟩ := hcell j _ (List.getElem?_eq_getElem hj)
      obtain ⟨a2, c2, rfl⟩ := h2.shp
      exact ⟨(a2, _, c2), h1, _, List.getElem?_eq_getElem hj, h2⟩
    obtain ⟨f, hf⟩ := Go.Deep.choose_lt key
    have hlen : ((List.range L.length).map f).length = L.length := by simp
    refine ⟨(List.range L.length).map f, ⟨_, cap, by rw [hlen], by rw [hlen]; exact hc, .inr ⟨b, off, rfl, hlt, fun j x hx i u hu => ?_⟩⟩, hlen, fun j l hl => ?_⟩
    · have hj : j < L.length := by
        rcases Nat.lt_or_ge j L.length with h | h
        · exact h
        · rw [List.getElem?_eq_none (by rw [hlen]; exact h)] at hx; cases hx
      simp [hj] at hx
      subst hx
      match i, hu with
      | 0, hu => simp [slC] at hu; subst hu; rw [Nat.mul_one, Nat.add_zero]; exact (hf j hj).1
      | (n + 1), hu => simp [slC] at hu
    · have hj : j < L.length := by
        rcases Nat.lt_or_ge j L.length with h | h
        · exact h
        · rw [List.getElem?_eq_none h] at hl; cases hl
      obtain ⟨_, l', h1, h2⟩ := hf j hj
      rw [h1] at hl; cases hl
      exact ⟨f j, by simp [hj], h2⟩
theorem RowsB.made {w : World} {v : Value} {vs : List SlH} {L : List (List Int)} (h : RowS w v vs) (hl : AllB w vs L) : RowsB w v L := by
  obtain ⟨a, cap, rfl, hc, hcase⟩ := h
  refine ⟨a, cap, by rw [hl.1], by rw [← hl.1]; exact hc, ?_⟩
  rcases hcase with rfl | ⟨b, off, rfl, hlt, hcell⟩
  · left; exact List.length_eq_zero_iff.1 hl.1.symm
  · refine .inr ⟨b, off, rfl, hlt, fun j l hj => ?_⟩
    obtain ⟨x, h1, h2⟩ := hl.2 j l hj
    have := hcell j x h1 0 (slV x) rfl
    rw [Nat.mul_one, Nat.add_zero] at this
    exact ⟨_, this, h2⟩
theorem RowsB.shp {w : World} {v : Value} {L : List (List Int)} (h : RowsB w v L) : ∃ a cap, v = .slice a L.length cap := by obtain ⟨a, cap, hv, _⟩ := h; exact ⟨a, cap, hv⟩
theorem OwnSl.fresh (w : World) : OwnSl (w.alloc (.cells #[] 25)) w.heap.size (.slice (some ⟨w.heap.size, 0, none⟩) 0 0) [] :=
  World.ownsRow_made w #[] 0 (Nat.le_refl _) (by decide) rfl
/-- 'append(b, x...)' of a row of rows to one of the call's own. -/
theorem wp_appS {ops : Array Oper} {rest : List Oper} {o : Oper} {a : Act} {Q : Exit → Act → World → Prop} (hgd : o.guard = none) (s x : Operand)
    (ho : o.op = .call { callee := .builtin .append, args := #[s, x], argTypes := #[40, 40] })
    (B base : Nat) (w0 w : World) (v vx : Value) (acc l : List SlH) (hown : OwnSl w base v acc) (hrow : RowS w vx l) (hb : Below B w0 w) (hB : B ≤ base) (hs : a.eval s = v)
    (hx : a.eval x = vx) (hlen : (acc.length + l.length) * 24 ≤ 140737488355328) (hbase : base ≤ w.heap.size)
    (h : ∀ v' w', OwnSl w' base v' (acc ++ l) → Below B w0 w' → w.heap.size ≤ w'.heap.size → w.grownBy w' v.ownBlock → wpList Try.prog ops Q rest (a.put o.dst v') w') :
    wpList Try.prog ops Q (o :: rest) a w := by
  refine wpList_step fun K hK => ?_
  rw [if_pos (by simp [Region.wanted, hgd])]
  exact op_appX slC_len slC_one (by decide) (by decide : 0 < 24) (z := .slice none 0 0) rfl Try.underlying40 infoSl s x ho B base w0 w v vx acc l hown hrow hb hB hs hx hlen hbase fun v' w' a1 a2 a3 a4 => hK _ _ (h v' w' a1 a2 a3 a4)
theorem cloneS_any (v : Value) (l : List SlH) (w : World) (h : RowS w v l) (hlen : l.length * 24 ≤ 140737488355328) :
    Calls Try.prog 20 #[v] w fun e w' => ∃ v', e = .returned v' ∧ OwnSl w' w.heap.size v' l ∧ Below w.heap.size w w' := by
  have h' := h
  obtain ⟨a, cap, rfl, hc1, hcase⟩ := h
  cases a with
  | none =>
    have hcap := hc1.2.2 rfl
    have hl : l = [] := List.length_eq_zero_iff.1 (by omega)
    subst hl hcap
    have hq := fun w : World => Lib.run_eql_slice_nil (P := Try.prog) w 40 25 none 0 0 0 0 Try.underlying40
    go_enter Try.func20, Try.ntmps20
    go_wp2
    go_ret
    exact ⟨_, rfl, World.ownsRow_nil _ _ _ _, Below.refl _ _⟩
  | some ad =>
    clear hcase
    have hq := fun w : World => Lib.run_eql_slice_nil (P := Try.prog) w 40 25 (some ad) l.length cap 0 0 Try.underlying40
    have hr1 : RowS (w.alloc (.cells #[] 25)) (.slice (some ad) l.length cap) l := h'.below ((Below.refl _ _).alloc (Nat.le_refl _) _) (Nat.le_refl _)
    have ho1 := OwnSl.fresh w
    have hb1 : Below w.heap.size w (w.alloc (.cells #[] 25)) := (Below.refl _ _).alloc (Nat.le_refl _) _
    clear h'
    go_enter Try.func20, Try.ntmps20
    go_wp2_with (at_builtin; go_must (refine wp_appS rfl _ _ rfl w.heap.size w.heap.size w _ _ _ [] l ho1 hr1 hb1 (Nat.le_refl _) rfl rfl (by simp; omega) (by simp) ?_); intro v' w1 hown' hb' hsz hg)
    go_ret
    exact ⟨v', rfl, hown', hb'⟩
/-- A row of rows in its block. -/
structure InS (B : Nat) (w0 : World) (g n cap : Nat) (w : World) (d : Array SlH) : Prop where
  size : d.size = n
  own : OwnSl w B (.slice (some ⟨g, 0, none⟩) n cap) d.toList
  bel : Below B w0 w
theorem InS.blk {B : Nat} {w0 w : World} {g n cap : Nat} {d : Array SlH} (h : InS B w0 g n cap w d) : B ≤ g ∧ g < w.heap.size := OwnX.blk h.own
theorem InS.free {B : Nat} {w0 w : World} {g n cap : Nat} {d : Array SlH} (h : InS B w0 g n cap w d) (t : Nat) : w.frozen? ⟨g, t, none⟩ = false := OwnX.unfrozen h.own t
theorem InS.cell {B : Nat} {w0 w : World} {g n cap : Nat} {d : Array SlH} (h : InS B w0 g n cap w d) (t : Nat) (ht : t < n) : w.cell? ⟨g, t, none⟩ = some (slV d[t]!) := by
  obtain ⟨a, c, hv, _, hcase⟩ := OwnX.row slC_len h.own
  simp only [Value.slice.injEq] at hv
  obtain ⟨rfl, _, _⟩ := hv
  have hs := h.size
  rcases hcase with h0 | ⟨b, off, he, hlt, hc⟩
  · have : d.size = 0 := by simpa using h0
    omega
  · simp only [Option.some.injEq, Addr.mk.injEq, and_true] at he
    obtain ⟨rfl, rfl⟩ := he
    have hd : d.toList[t]? = some d[t]! := by simp [show t < d.size by omega]
    have := hc t _ hd 0 _ rfl
    rw [Nat.mul_one, Nat.add_zero, Nat.zero_add] at this
    exact this
theorem InS.draw {B : Nat} {w0 w : World} {g n cap : Nat} {d : Array SlH} (h : InS B w0 g n cap w d) (q : Nat) : InS B w0 g n cap (w.drewN q) d :=
  ⟨h.size, h.own, ⟨h.bel.os, h.bel.tape, h.bel.output, h.bel.size, h.bel.block⟩⟩
theorem InS.set {B : Nat} {w0 w : World} {g n cap : Nat} {d : Array SlH} (h : InS B w0 g n cap w d) (i : Nat) (hi : i < n) (x : SlH) : InS B w0 g n cap (w.setCell ⟨g, i, none⟩ (slV x)) (d.setIfInBounds i x) := by
  have h2 := OwnX.set slC_len h.own (i := i) (by have := h.size; simpa using by omega) x
  refine ⟨by simp [h.size], ?_, h.bel.setCell h.blk.1 _⟩
  rw [Array.toList_setIfInBounds]
  rw [Nat.mul_one] at h2
  exact h2
theorem InS.swap {B : Nat} {w0 w : World} {g n cap : Nat} {d : Array SlH} (h : InS B w0 g n cap w d) (i j : Nat) (hi : i < n) (hj : j < n) :
    InS B w0 g n cap ((w.setCell ⟨g, i, none⟩ (slV d[j]!)).setCell ⟨g, j, none⟩ (slV d[i]!)) (Sort.swp d i j) := (h.set i hi _).set j hj _
set_option maxHeartbeats 4000000 in
set_option maxRecDepth 100000 in
/-- Turned around: the same rows among themselves. -/
theorem reverse_in {B : Nat} {w0 w : World} {g n cap : Nat} {d : Array SlH} (h : InS B w0 g n cap w d) (hn : n ≤ 1152921504606846976) :
    Calls Try.prog 21 #[.slice (some ⟨g, 0, none⟩) n cap] w fun e w' => e = .returned (.tuple #[]) ∧ ∃ d', InS B w0 g n cap w' d' ∧ Sort.PermIn 0 n d d' := by
  go_enter Try.func21, Try.ntmps21
  go_wp2
  go_loopw [2, 3] (fun vi vj wr => ∃ (i : Nat) (jj : Int) (dk : Array SlH), vi = .int .i64 i ∧ vj = .int .i64 jj ∧ i ≤ n ∧ jj < n ∧ -1 ≤ jj ∧ InS B w0 g n cap wr dk ∧ Hid (Sort.PermIn 0 n d dk)) (fun vi vj _ => (intOf vj + 1 - intOf vi).toNat)
  case atStart => exact ⟨0, (n : Int) - 1, d, rfl, by first | rfl | go_num, by omega, by omega, by omega, h, hide (Sort.permIn_refl d 0 n)⟩
  case round =>
    obtain ⟨i, jj, dk, rfl, rfl, hib, hjb, hj1, hk, HP⟩ := hrel
    by_cases hij : (i : Int) < jj
    · obtain ⟨j, rfl⟩ : ∃ j : Nat, jj = (j : Int) := ⟨jj.toNat, by omega⟩
      have HK := hide hk
      have HS := hide hk.size
      have c1 := hk.cell i (by omega)
      have c2 := hk.cell j (by omega)
      have f1 := hk.free i
      have f2 := hk.free j
      have j0 : (0 : Int) ≤ (i : Int) := by omega
      have j1 : (i : Int) < (n : Int) := by omega
      have j2 : (0 : Int) ≤ (j : Int) := by omega
      have j3 : (j : Int) < (n : Int) := by omega
      have hne : i ≠ j := by omega
      have hin : i < n := by omega
      have hjn : j < n := by omega
      have hd : decide ((i : Int) < (j : Int)) = true := by simpa using hij
      clear hk h
      obtain ⟨⟨xa, xl, xc⟩, hx⟩ : ∃ x, dk[i]! = x := ⟨_, rfl⟩
      obtain ⟨⟨ya, yl, yc⟩, hy⟩ : ∃ y, dk[j]! = y := ⟨_, rfl⟩
      rw [hx] at c1
      rw [hy] at c2
      simp only [slV] at c1 c2
      have HX := hide hx
      have HY := hide hy
      clear hx hy
      go_wp2
      go_region
      all_goals go_wp2
      go_roundw
      case rel =>
        refine ⟨i + 1, (j : Int) - 1, Sort.swp dk i j, by go_num, by first | rfl | go_num, by omega, by omega, by omega, ?_, ?_⟩
        · have := (HK.out.draw (0 + 1)).swap i j hin hjn
          rw [HX.out, HY.out] at this
          exact this
        · exact hide (Sort.permIn_trans _ _ _ _ _ HP.out (Sort.swp_permIn dk 0 n i j (by omega) (by omega) (by omega) (by omega) (by have := HS.out; omega)))
      case measure => simp [intOf]; omega
    · have hd : decide ((i : Int) < jj) = false := by simpa using hij
      go_wp2
      go_end0
      exact ⟨rfl, dk, hk, HP.out⟩
set_option maxHeartbeats 1000000 in
theorem reverse_none (w : World) :
    Calls Try.prog 21 #[.slice none 0 0] w fun e w' => e = .returned (.tuple #[]) ∧ w' = w := by
  go_enter Try.func21, Try.ntmps21
  go_wp2
  refine wp_loop_rounds 1 ?_
  rw [rounds_succ]
  go_wp2
  go_end0
  exact ⟨rfl, rfl⟩
theorem reverse_own (w : World) (base : Nat) (v : Value) (l : List SlH) (h : OwnSl w base v l) (hn : l.length ≤ 1152921504606846976) :
    Calls Try.prog 21 #[v] w fun e w' => e = .returned (.tuple #[]) ∧ Below base w w' ∧ ∃ l', OwnSl w' base v l' ∧ l'.Perm l := by
  rcases h.2 with ⟨rfl, h0⟩ | ⟨g, cap, cur, rfl, hb, hg, hn2, hm, hs, ht⟩
  · obtain rfl : l = [] := List.length_eq_zero_iff.1 h0
    refine (reverse_none w).mono ?_
    rintro e w' ⟨rfl, rfl⟩
    exact ⟨rfl, Below.refl _ _, [], h, List.Perm.refl _⟩
  · have hI : InS base w g l.length cap w l.toArray := ⟨by simp, by simpa using h, Below.refl _ _⟩
    refine (reverse_in hI hn).mono ?_
    rintro e w' ⟨rfl, d', h1, h2⟩
    have hsz := h1.size
    refine ⟨rfl, h1.bel, d'.toList, ?_, ?_⟩
    · have := h1.own
      exact this
    · have h3 := h2.2.2
      simp only [Array.toList_extract, List.extract_eq_take_drop, List.drop_zero, Nat.sub_zero] at h3
      rw [List.take_of_length_le (by simpa using by omega), List.take_of_length_le (by simp)] at h3
      simpa using h3
end Go.Proofs.Ytpinhcbkfjoopaa
