/- Several texts in one. -/
import Derived.Test.YtcaidfffmllfeaaHeavyLAll
import Derived.Test.YtcaidfffmllfeaaCatCAll
import Derived.Test.YtcaidfffmllfeaaHeavyFAll
import Derived.Deep.RegionWith
import Derived.BigQuiet
/- What together answers: the keys of both lists, each with what it has in both. -/
namespace Go.Proofs.Ytcaidfffmllfeaa
open Go.RowKit
set_option linter.unusedVariables false
namespace P
/-- How out stands behind the first ones of a list in order. -/
structure TgAt (p o : List Ct) : Prop where
  asc : Asc o
  pos : Pos o
  look : ∀ q, look o q = look p q
  tot : tot o = tot p
  keys : ∀ x ∈ o, ∃ y ∈ p, y.1 = x.1
  len : o.length ≤ p.length
theorem TgAt.nil : TgAt [] [] := ⟨List.Pairwise.nil, (fun x hx => by simp at hx), fun _ => rfl, rfl, (fun x hx => by simp at hx), Nat.le_refl _⟩
theorem TgAt.new {p o : List Ct} (h : TgAt p o) {c : Ct} (hc : 0 < c.2) (hs : ∀ y ∈ p, kl c.1 y.1 = false) (hl : ∀ j y, j + 1 = o.length → o[j]? = some y → y.1 ≠ c.1) : TgAt (p ++ [c]) (o ++ [c]) := by
  refine ⟨?_, ?_, fun q => by rw [look_append, look_append, h.look], by rw [tot_append, tot_append, h.tot], ?_, by simp [h.len]⟩
  · refine List.pairwise_append.2 ⟨h.asc, List.pairwise_singleton _ _, fun x hx z hz => ?_⟩
    have hzc : z = c := by simpa using hz
    rw [hzc]
    obtain ⟨i, hi, rfl⟩ := List.getElem_of_mem hx
    have hn : 0 < o.length := by omega
    have hlast : o[o.length - 1]? = some (o[o.length - 1]'(by omega)) := List.getElem?_eq_getElem _
    have hlk : kl (o[o.length - 1]'(by omega)).1 c.1 = true := by
      obtain ⟨y, hy, e⟩ := h.keys (o[o.length - 1]'(by omega)) (List.getElem_mem _)
      have h1 := hs y hy
      rcases kl_total (o[o.length - 1]'(by omega)).1 c.1 with h2 | h2 | h2
      · exact h2
      · exact absurd h2 (hl (o.length - 1) _ (by omega) hlast)
      · rw [e] at h1; rw [h1] at h2; cases h2
    rcases Nat.lt_or_ge i (o.length - 1) with h3 | h3
    · exact kl_trans (List.pairwise_iff_getElem.1 h.asc i (o.length - 1) hi (by omega) h3) hlk
    · have : i = o.length - 1 := by omega
      subst this; exact hlk
  · intro x hx
    rcases List.mem_append.1 hx with hx | hx
    · exact h.pos x hx
    · simp at hx; subst hx; exact hc
  · intro x hx
    rcases List.mem_append.1 hx with hx | hx
    · obtain ⟨y, hy, e⟩ := h.keys x hx
      exact ⟨y, by simp [hy], e⟩
    · simp at hx; exact ⟨c, by simp, by rw [hx]⟩
theorem TgAt.same {p o : List Ct} (h : TgAt p o) {c : Ct} (hc : 0 < c.2) {j : Nat} {y : Ct} (hj : j + 1 = o.length) (hy : o[j]? = some y) (hk : y.1 = c.1) : TgAt (p ++ [c]) (o.set j (y.1, y.2 + c.2)) := by
  obtain ⟨r, e⟩ : ∃ r, o = r ++ [y] := by
    refine ⟨o.take j, ?_⟩
    have := List.take_add_one (l := o) (i := j)
    rw [List.take_of_length_le (by omega), hy] at this
    exact this
  have hjr : j = r.length := by rw [e] at hj; simp at hj; exact hj
  subst e
  have e2 : (r ++ [y]).set j (y.1, y.2 + c.2) = r ++ [(y.1, y.2 + c.2)] := by rw [hjr]; simp
  rw [e2]
  have ha := List.pairwise_append.1 h.asc
  refine ⟨?_, ?_, fun q => ?_, ?_, ?_, ?_⟩
  · refine List.pairwise_append.2 ⟨ha.1, List.pairwise_singleton _ _, fun x hx z hz => ?_⟩
    simp at hz; subst hz
    exact ha.2.2 x hx y (by simp)
  · intro x hx
    rcases List.mem_append.1 hx with hx | hx
    · exact h.pos x (by simp [hx])
    · simp at hx; subst hx
      have := h.pos y (by simp)
      show 0 < y.2 + c.2; omega
  · have := h.look q
    rw [look_append] at this
    rw [look_append, look_append, ← this]
    simp only [P.look, hk]
    split <;> omega
  · have := h.tot
    rw [tot_append] at this
    rw [tot_append, tot_append, ← this]
    simp only [P.tot]; omega
  · intro x hx
    rcases List.mem_append.1 hx with hx | hx
    · obtain ⟨z, hz, e⟩ := h.keys x (by simp [hx])
      exact ⟨z, by simp [hz], e⟩
    · simp at hx; subst hx
      exact ⟨c, by simp, hk.symm⟩
  · have := h.len; simp at this ⊢; omega
theorem TgAt.done {a b p o : List Ct} (h : TgAt p o) (hp : p.Perm (a ++ b)) (ha : Asc a) (pa : Pos a) (pb : Pos b) : o = tog a b :=
  asc_ext h.asc (tog_asc ha b) h.pos (tog_pos pa pb) fun k => by rw [h.look, look_perm hp, look_append, tog_look]
/-- What a step may lean on. -/
theorem sorted_at {l : List Ct} (h : l.Pairwise fun x y => kl y.1 x.1 = false) {k : Nat} {c : Ct} (hc : l[k]? = some c) : ∀ y ∈ l.take k, kl c.1 y.1 = false := by
  intro y hy
  have hk : k < l.length := (List.getElem?_eq_some_iff.1 hc).1
  obtain ⟨i, hi, rfl⟩ := List.getElem_of_mem hy
  have hi2 : i < k := by simp at hi; omega
  rw [List.getElem_take]
  have := List.pairwise_iff_getElem.1 h i k (by omega) hk hi2
  rw [(List.getElem?_eq_some_iff.1 hc).2] at this
  exact this
end P
theorem flat_set1 {α : Type} {e : α → List Value} {k : Nat} (he : ∀ x, (e x).length = k) (l : List α) (j i : Nat) (x x' : α) (u : Value) (hx : l[j]? = some x) (hi : i < k) (h : e x' = (e x).set i u) : (l.flatMap e).set (j * k + i) u = (l.set j x').flatMap e := by
  induction l generalizing j with
  | nil => simp at hx
  | cons y l ih =>
    cases j with
    | zero =>
      simp at hx; subst hx
      simp only [List.flatMap_cons, List.set_cons_zero, Nat.zero_mul, Nat.zero_add]
      rw [List.set_append_left _ _ (by rw [he]; exact hi), h]
    | succ j =>
      simp only [List.flatMap_cons, List.set_cons_succ]
      rw [← ih j (by simpa using hx), show (j + 1) * k + i = (e y).length + (j * k + i) by rw [he, Nat.succ_mul]; omega, List.set_append_right _ _ (by omega), Nat.add_sub_cancel_left]
/-- One cell of a struct in a row of the call's own is written. -/
theorem OwnX.set1 {α : Type} {e : α → List Value} {k : Nat} {t : TypeId} (he : ∀ x, (e x).length = k) {w : World} {base g n cap i j : Nat} {l : List α} (h : OwnX e k t w base (.slice (some ⟨g, 0, none⟩) n cap) l) (x x' : α) (u : Value) (hx : l[j]? = some x) (hi : i < k) (hu : e x' = (e x).set i u) :
    OwnX e k t (w.setCell ⟨g, j * k + i, none⟩ u) base (.slice (some ⟨g, 0, none⟩) n cap) (l.set j x') := by
  obtain ⟨h1, h2⟩ := h
  rcases h2 with ⟨hv, _⟩ | ⟨g', cap', cur, hv, hb, hg, hn, hm, hs, ht⟩
  · cases hv
  · simp only [Value.slice.injEq, Option.some.injEq, Addr.mk.injEq, and_true] at hv
    obtain ⟨hgg, rfl, rfl⟩ := hv
    subst hgg
    refine ⟨by rw [flat_len he], .inr ⟨g, cap, _, by simp, hb, heap_setCell_same w g (j * k + i) _ _ u hg, by simpa using hn, hm, by simpa using hs, ?_⟩⟩
    rw [Array.toList_setIfInBounds, List.length_set, List.take_set, ht, flat_set1 he l j i x x' u hx hi hu]
/-- How the loop of together stands. -/
def TogAt (w : World) (l : List P.Ct) (i vl : Value) (wr : World) : Prop :=
  ∃ (k : Nat) (o : List P.Ct), k ≤ l.length ∧ i = .int .i64 k ∧ P.TgAt (l.take k) o ∧ OwnC wr w.heap.size vl o ∧ Below w.heap.size w wr
theorem own_last {w : World} {base n cap : Nat} {a : Option Addr} {o : List P.Ct} (h : OwnC w base (.slice a n cap) o) {j : Nat} {y : P.Ct} (hy : o[j]? = some y) :
    ∃ g, a = some ⟨g, 0, none⟩ ∧ base ≤ g ∧ g < w.heap.size ∧ w.cell? ⟨g, j * 2, none⟩ = some (.string y.1) ∧ w.cell? ⟨g, j * 2 + 1, none⟩ = some (.int .i64 y.2) ∧ w.frozen? ⟨g, j * 2 + 1, none⟩ = false := by
  have hr := h.row
  have h0 := h
  obtain ⟨h1, h2⟩ := h
  rcases h2 with ⟨hv, h3⟩ | ⟨g, cap', cur, hv, hb, hg, _⟩
  · have : o = [] := List.length_eq_zero_iff.1 h3
    subst this; simp at hy
  · have hv2 := hv
    simp only [Value.slice.injEq] at hv
    obtain ⟨ha, hn, hc⟩ := hv
    subst ha hn hc
    obtain ⟨a3, c3, hv3, _, hcase⟩ := hr
    simp only [Value.slice.injEq] at hv3
    obtain ⟨ha3, _, _⟩ := hv3
    rcases hcase with h | ⟨b, off, he, _, hc⟩
    · subst h; simp at hy
    · rw [← ha3] at he
      simp at he
      obtain ⟨rfl, rfl⟩ := he
      obtain ⟨q0, q1⟩ := RowC.at hc hy
      rw [Nat.zero_add] at q0 q1
      exact ⟨g, rfl, hb, (Array.getElem?_eq_some_iff.1 hg).1, q0, q1, h0.unfrozen _⟩
theorem TogAt.start (w : World) (l : List P.Ct) : TogAt w l (.int .i64 0) (.slice none 0 0) w := ⟨0, [], Nat.zero_le _, rfl, P.TgAt.nil, OwnX.nil _ _ _ _ _, Below.refl _ _⟩
theorem below_ownC {w w1 w2 : World} {v : Value} {l : List P.Ct} (hb : Below w.heap.size w w1) (ho : OwnC w1 w.heap.size v l) (hg : w1.grownBy w2 v.ownBlock) : Below w.heap.size w w2 := hb.grown hg hb.size (fun j hj => (World.ownsRow.lt ho j hj).1)
set_option maxHeartbeats 4000000 in
theorem together_any (v1 v2 : Value) (l1 l2 : List P.Ct) (w : World) (h1 : RowC w v1 l1) (h2 : RowC w v2 l2) (n1 : l1.length ≤ 200) (n2 : l2.length ≤ 200) (a1 : P.Asc l1) (p1 : P.Pos l1) (p2 : P.Pos l2) (t1 : P.tot l1 ≤ 2000000000) (t2 : P.tot l2 ≤ 2000000000) :
    Calls Try.prog 37 #[v1, v2] w fun e w' => ∃ v', e = .returned v' ∧ OwnC w' w.heap.size v' (P.tog l1 l2) ∧ Below w.heap.size w w' := by
  have hB0 : Below w.heap.size w (w.alloc (.cells #[v1, v2] 22)) := (Below.refl _ w).alloc (Nat.le_refl _) _
  have hcat : catC [(v1, l1), (v2, l2)] = l1 ++ l2 := by simp [catC]
  have HC := hide (concatC_any w.heap.size 2 2 [(v1, l1), (v2, l2)] (w.alloc (.cells #[v1, v2] 22)) rfl (by decide) (by simp)
    (fun j x hx => by
      match j, hx with
      | 0, hx => simp at hx; subst hx; exact ⟨by simp, h1.below hB0 (Nat.le_refl _)⟩
      | 1, hx => simp at hx; subst hx; exact ⟨by simp, h2.below hB0 (Nat.le_refl _)⟩
      | (n + 2), hx => simp at hx) (by rw [hcat]; simp; omega))
  rw [hcat] at HC
  have HSo := hide (fun w base v (h : OwnC w base v (l1 ++ l2)) => sortF_own w base v (l1 ++ l2) h (by simp; omega))
  have HDone := hide (fun (p o : List P.Ct) (h : P.TgAt p o) (hp : p.Perm (l1 ++ l2)) => h.done hp a1 p1 p2)
  have HPos : Hid (∀ p : List P.Ct, p.Perm (l1 ++ l2) → P.Pos p ∧ p.length ≤ 400 ∧ P.tot p ≤ 4000000000) := fun p hp => by
    refine ⟨fun x hx => ?_, ?_, ?_⟩
    · rcases List.mem_append.1 (hp.mem_iff.1 hx) with h | h
      · exact p1 x h
      · exact p2 x h
    · rw [hp.length_eq]; simp; omega
    · rw [P.tot_perm hp, P.tot_append]; omega
  obtain ⟨x1, c1, e1⟩ := h1.shp
  obtain ⟨x2, c2, e2⟩ := h2.shp
  rw [e1, e2] at HC hB0 ⊢
  generalize P.tog l1 l2 = R at *
  generalize l1 ++ l2 = M at *
  clear h1 h2 hcat p1 p2 a1 t1 t2 e1 e2
  go_enter Try.func37, Try.ntmps37
  go_wp2_with (first
    | (go_at_call 52; go_must (refine HC.out.mono ?_); rintro e w1 ⟨v, rfl, own1, hb1⟩; obtain ⟨av, cv, hv⟩ := own1.shp ctC_len; rw [hv] at own1 ⊢; clear hv)
    | (go_at_call 53; go_must (refine (HSo.out _ _ _ own1).mono ?_); rintro e w2 ⟨rfl, l, hp, hs, own2, hg2⟩))
  have hlen : l.length = M.length := hp.length_eq
  have HW : Hid (Below w.heap.size w w2) := by
    have hb2 : Below w.heap.size w w1 := Below.next hB0 hb1
    exact hb2.grown hg2 hb2.size (fun j hj => by have := (World.ownsRow.lt own1 j hj).1; simp at this; omega)
  have hs0 : w.heap.size ≤ w2.heap.size := HW.out.size
  obtain ⟨hpos, hl400, htot⟩ := HPos.out l hp
  have HP := hide hpos
  have HT := hide htot
  have HD := hide (fun o h => HDone.out l o h hp)
  have HS := hide hs
  obtain ⟨a3, c3, hv3, ⟨hlc, hmax, _⟩, hcase⟩ := own2.row
  simp only [Value.slice.injEq] at hv3
  obtain ⟨rfl, hl3, rfl⟩ := hv3
  rw [← hlen]
  clear HC HSo HDone HPos hp hs own1 own2 hg2 hb1 hB0 hpos htot hl3 hlen
  unfold maxLen at hmax
  go_wp2
  go_loopw [18, 6] (fun i vl wr => TogAt w2 l i vl wr) (fun i _ _ => l.length - (intOf i).toNat)
  case atStart => exact TogAt.start _ _
  case round =>
    obtain ⟨k, o, hk, rfl, hT, hown, hb⟩ := hrel
    have hsz := hb.size
    by_cases hlt : k < l.length
    · rcases hcase with h | ⟨p, q, rfl, hpl, hc⟩
      · rw [h] at hlt; simp at hlt
      obtain ⟨y, hy⟩ : ∃ y, l[k]? = some y := ⟨_, List.getElem?_eq_getElem hlt⟩
      obtain ⟨g0, g1⟩ := RowC.at hc hy
      replace g0 := (hb.cell (p := ⟨p, q + k * 2, none⟩) hpl).trans g0
      replace g1 := (hb.cell (p := ⟨p, q + k * 2 + 1, none⟩) hpl).trans g1
      have hy0 := HP.out y (List.mem_of_getElem? hy)
      have hsa := P.sorted_at HS.out hy
      have HTk : Hid (l.take (k + 1) = l.take k ++ [y]) := by show _ = _; rw [List.take_add_one, hy]; rfl
      have HN := hide (fun h => hT.new (c := y) hy0 hsa h)
      have HSm : Hid (∀ (j : Nat) (z : P.Ct), j + 1 = o.length → o[j]? = some z → z.1 = y.1 → P.TgAt (l.take k ++ [y]) (o.set j (z.1, z.2 + y.2))) := fun j z h1 h2 h3 => hT.same (c := y) hy0 h1 h2 h3
      have hol : o.length ≤ 400 := by have := hT.len; simp at this; omega
      have hyb : y.2 ≤ 4000000000 := by have := P.mem_le_tot HP.out (List.mem_of_getElem? hy); have := HT.out; omega
      have hob : ∀ z ∈ o, 0 < z.2 ∧ z.2 ≤ 4000000000 := fun z hz => by
        have e1 := P.mem_le_tot hT.pos hz
        rw [hT.tot] at e1
        have e2 := hT.pos z hz
        have e3 : P.tot (l.take k) ≤ P.tot l := by
          have e4 := P.tot_append (l.take k) (l.drop k)
          rw [List.take_append_drop] at e4
          have e5 := P.tot_nonneg (l := l.drop k) (fun x hx => HP.out x (List.mem_of_mem_drop hx))
          omega
        have := HT.out
        omega
      clear hc hy hsa hT
      have n0 : (0 : Int) ≤ (k : Int) := by omega
      have n1 : (k : Int) < (l.length : Int) := by omega
      have o5 := hown.below ((Below.refl _ _).alloc (Nat.le_refl _) (.cells #[.string y.1, .int .i64 y.2] 50)) (Nat.le_refl _)
      have b5 := hb.alloc hsz (.cells #[.string y.1, .int .i64 y.2] 50)
      have s5 := b5.size
      have z5 : (wr.alloc (.cells #[.string y.1, .int .i64 y.2] 50)).heap.size = wr.heap.size + 1 := by simp
      have qb : (wr.alloc (.cells #[.string y.1, .int .i64 y.2] 50)).cell? ⟨wr.heap.size, 0, none⟩ = some (.string y.1) := by simp
      have qb1 : (wr.alloc (.cells #[.string y.1, .int .i64 y.2] 50)).cell? ⟨wr.heap.size, 1, none⟩ = some (.int .i64 y.2) := by simp
      obtain ⟨s0, s1⟩ := y
      simp only at g0 g1 HN HTk hy0 hyb o5 b5 s5 z5 qb qb1
      obtain ⟨av2, cv2, hv2⟩ := hown.shp ctC_len
      subst hv2
      clear hown hb
      by_cases hne : 0 < o.length
      · obtain ⟨j, hj⟩ : ∃ j, j + 1 = o.length := ⟨o.length - 1, by omega⟩
        obtain ⟨z, hz⟩ : ∃ z, o[j]? = some z := ⟨_, List.getElem?_eq_getElem (by omega)⟩
        obtain ⟨g, rfl, hg1, hg2, r0, r1, r2⟩ := own_last o5 hz
        have hzb := hob z (List.mem_of_getElem? hz)
        have ej : IntKind.i64.wrap ((o.length : Int) - 1) = (j : Int) := by rw [IntKind.wrap_i64]; omega
        have j0 : (0 : Int) ≤ (j : Int) := by omega
        have j1 : (j : Int) < (o.length : Int) := by omega
        have HJ := hide hj
        have HZ := hide hz
        obtain ⟨z0, z1⟩ := z
        simp only at r0 r1 hzb
        cases hke : (z0.toList == s0.toList) with
        | true =>
          have HA := hide (HSm.out j (z0, z1) HJ.out HZ.out (P.ba_ext (eq_of_beq hke)))
          clear HN HSm hob hj hz
          go_wp2
          generalize (wr.alloc (.cells #[.string s0, .int .i64 s1] 50)) = W at *
          go_quiet (fail)
          go_wp2
          go_region
          go_wp2
          go_roundw
          case rel =>
            have own7 := OwnX.set1 ctC_len (o5.below (below_dn (Below.refl _ W) (nq + 1)) (Nat.le_refl _)) (z0, z1) (z0, z1 + s1) (.int .i64 (z1 + s1)) (i := 1) HZ.out (by decide) rfl
            exact ⟨k + 1, o.set j (z0, z1 + s1), by omega, by go_num, by rw [HTk.out]; exact HA.out, own7, (below_dn b5 _).setCell hg1 _⟩
          case measure => simp [intOf]; omega
        | false =>
          have HA := hide (HN.out fun i x hi hx => by
            have h1 := HJ.out
            obtain rfl : i = j := by omega
            rw [HZ.out] at hx
            simp at hx; subst hx
            intro e
            simp only at e
            subst e
            simp at hke)
          clear HN HSm hob hj hz
          go_wp2
          generalize (wr.alloc (.cells #[.string s0, .int .i64 s1] 50)) = W at *
          go_quiet (fail)
          replace o5 : OwnC (W.drewN nq) w2.heap.size (.slice (some ⟨g, 0, none⟩) o.length cv2) o := o5.below (below_dn (Below.refl _ W) nq) (Nat.le_refl _)
          replace b5 : Below w2.heap.size w2 (W.drewN nq) := below_dn b5 _
          replace z5 : (W.drewN nq).heap.size = wr.heap.size + 1 := z5
          replace s5 : w2.heap.size ≤ (W.drewN nq).heap.size := s5
          replace qb : (W.drewN nq).cell? ⟨wr.heap.size, 0, none⟩ = some (.string s0) := qb
          replace qb1 : (W.drewN nq).cell? ⟨wr.heap.size, 1, none⟩ = some (.int .i64 s1) := qb1
          generalize W.drewN nq = W2 at *
          clear r0 r1 r2 hg2
          go_wp2_with (at_builtin; go_must (refine wp_oneC rfl (.tmp 47) (.tmp 49) rfl w2.heap.size w2.heap.size w2 W2 _ o (s0, s1) o5 b5 (Nat.le_refl _) rfl (show Value.slice (some ⟨wr.heap.size + 1, 0, none⟩) 1 1 = _ by rw [z5]) (by omega) s5 s5 ?_); intro v' w6 own6 bl6 sz6 _)
          go_roundw
          case rel => exact ⟨k + 1, o ++ [(s0, s1)], by omega, by go_num, by rw [HTk.out]; exact HA.out, own6, bl6⟩
          case measure => simp [intOf]; omega
      · obtain rfl : o = [] := List.length_eq_zero_iff.1 (by omega)
        have HA := hide (HN.out fun i x hi hx => by simp at hx)
        simp only [List.length_nil] at *
        have ej : IntKind.i64.wrap ((0 : Int) - 1) = -1 := by decide
        clear HN HSm hob
        go_wp2
        generalize (wr.alloc (.cells #[.string s0, .int .i64 s1] 50)) = W at *
        go_quiet (fail)
        replace o5 : OwnC (W.drewN nq) w2.heap.size (.slice av2 0 cv2) [] := o5.below (below_dn (Below.refl _ W) nq) (Nat.le_refl _)
        replace b5 : Below w2.heap.size w2 (W.drewN nq) := below_dn b5 _
        replace z5 : (W.drewN nq).heap.size = wr.heap.size + 1 := z5
        replace s5 : w2.heap.size ≤ (W.drewN nq).heap.size := s5
        replace qb : (W.drewN nq).cell? ⟨wr.heap.size, 0, none⟩ = some (.string s0) := qb
        replace qb1 : (W.drewN nq).cell? ⟨wr.heap.size, 1, none⟩ = some (.int .i64 s1) := qb1
        generalize W.drewN nq = W2 at *
        go_wp2_with (at_builtin; go_must (refine wp_oneC rfl (.tmp 47) (.tmp 49) rfl w2.heap.size w2.heap.size w2 W2 _ [] (s0, s1) o5 b5 (Nat.le_refl _) rfl (show Value.slice (some ⟨wr.heap.size + 1, 0, none⟩) 1 1 = _ by rw [z5]) (by simp) s5 s5 ?_); intro v' w6 own6 bl6 sz6 _)
        go_roundw
        case rel => exact ⟨k + 1, [(s0, s1)], by omega, by go_num, by rw [HTk.out]; exact HA.out, own6, bl6⟩
        case measure => simp [intOf]; omega
    · have hd : decide ((k : Int) < (l.length : Int)) = false := by simp; omega
      obtain rfl : k = l.length := by omega
      rw [List.take_length] at hT
      have HR := hide (HD.out o hT)
      go_wp2
      go_ret
      exact ⟨_, rfl, by rw [← HR.out]; exact hown.base hs0, HW.out.trans (hb.mono hs0)⟩
end Go.Proofs.Ytcaidfffmllfeaa
