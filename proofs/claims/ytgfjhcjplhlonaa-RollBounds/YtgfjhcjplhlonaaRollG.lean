/- What gather answers. -/
import Derived.Test.YtgfjhcjplhlonaaRollK
import Derived.Deep.RegionWith
namespace Go.Proofs.Ytgfjhcjplhlonaa
open Go.RowKit
set_option linter.unusedVariables false
namespace P
/-- What comes out of windows that are put together. -/
def rout (l : List Wn) (w : Int) : List Wn := if rerr l w = 0 then grp (beg w) l else []
theorem rerr_arg {l : List Wn} {w : Int} (h : w < 1 ∨ 1099511627776 < w) : rerr l w = 1 := by
  unfold rerr
  rcases h with h | h
  · rw [if_pos h]
  · split
    · rfl
    · rfl
theorem rerr_far {l : List Wn} {w : Int} (h1 : 1 ≤ w) (h2 : w ≤ 1099511627776) {k : Nat} {x : Wn} (hx : l[k]? = some x) (h : x.t < -1152921504606846976 ∨ 1152921504606846976 < x.t) : rerr l w = 6 := by
  unfold rerr
  rw [if_neg (by omega), if_neg (by omega), if_pos]
  unfold far
  exact List.any_eq_true.2 ⟨x, List.mem_of_getElem? hx, by simpa using h⟩
theorem far_no {l : List Wn} (h : ∀ (k : Nat) x, k < l.length → l[k]? = some x → -1152921504606846976 ≤ x.t ∧ x.t ≤ 1152921504606846976) : far l = false := by
  unfold far
  rw [List.any_eq_false]
  intro x hx
  obtain ⟨k, hk, e⟩ := List.mem_iff_getElem.1 hx
  have := h k x hk (by rw [List.getElem?_eq_getElem hk, e])
  simp; omega
theorem rerr_near {l : List Wn} {w : Int} (h1 : 1 ≤ w) (h2 : w ≤ 1099511627776) (h : far l = false) : rerr l w = if crowd (grp (beg w) l) = true then 2 else 0 := by
  unfold rerr
  rw [if_neg (by omega), if_neg (by omega), if_neg (by simp [h])]
theorem rout_bad {l : List Wn} {w : Int} (h : rerr l w ≠ 0) : rout l w = [] := by unfold rout; rw [if_neg h]
theorem rout_ok {l : List Wn} {w : Int} (h : rerr l w = 0) : rout l w = grp (beg w) l := by unfold rout; rw [if_pos h]
theorem grp_take {g : Int → Int} {l : List Wn} {k : Nat} {x : Wn} (hx : l[k]? = some x) : grp g (l.take (k + 1)) = cat (grp g (l.take k)) [at' (g x.t) x] := by
  rw [List.take_add_one, hx]; exact grp_snoc _ _ _
theorem cat_same {O : List Wn} {x y : Wn} (h : x.t = y.t) : cat (O ++ [x]) [y] = (O ++ [x]).set O.length (bo x y) := by
  rw [cat_snoc, if_pos h]; simp
theorem cat_other {O : List Wn} {x y : Wn} (h : ¬ x.t = y.t) : cat (O ++ [x]) [y] = O ++ [x] ++ [y] := by
  rw [cat_snoc, if_neg h]; simp
theorem last_of {O : List Wn} (h : O ≠ []) : ∃ A y, O = A ++ [y] := ⟨O.dropLast, O.getLast h, (List.dropLast_concat_getLast h).symm⟩
end P
theorem begin_ok (t w : Int) (W : World) (ht : -1152921504606846976 ≤ t ∧ t ≤ 1152921504606846976) (hw : 1 ≤ w ∧ w ≤ 1099511627776) : Calls Try.prog 34 #[.int .i64 t, .int .i64 w] W fun e w' => e = .returned (.int .i64 (P.beg w t)) ∧ w' = W := by
  have h := begin_any t w W (by omega) hw
  have hb := P.beg_le hw.1 t
  rw [IntWalk.i64_in _ (by omega)] at h
  exact h
theorem below_of_drew {W w2 : World} (h : Below W.drew.heap.size W.drew w2) : Below W.heap.size W w2 := ⟨h.os, h.tape, h.output, h.size, h.block⟩
theorem at7_new (w : World) (x : P.Wn) (t : TypeId) : At7 (w.alloc (.cells #[.int .i64 x.t, .int .i64 x.n, .int .i64 x.s, .int .i64 x.mn, .int .i64 x.mx, .int .i64 x.f, .int .i64 x.l] t)) w.heap.size 0 x :=
  ⟨by simp, by simp, by simp, by simp, by simp, by simp, by simp⟩
theorem At7.dn {w : World} {b o : Nat} {x : P.Wn} (h : At7 w b o x) (q : Nat) : At7 (w.drewN q) b o x := ⟨h.t, h.n, h.s, h.mn, h.mx, h.f, h.l⟩
/-- 'append(b, x)' of one window that lies in a new block, where the walk stands at it. -/
theorem wp_oneW {ops : Array Oper} {rest : List Oper} {o : Oper} {a : Act} {Q : Exit → Act → World → Prop} (hgd : o.guard = none) (s x : Operand)
    (ho : o.op = .call { callee := .builtin .append, args := #[s, x], argTypes := #[23, 23] })
    (B base : Nat) (w0 w : World) (v : Value) (acc : List P.Wn) (y : P.Wn) (c : Array Value) (hc : c = (wnC y).toArray) (hown : OwnW w base v acc) (hb : Below B w0 w) (hB : B ≤ base) (hs : a.eval s = v)
    (hx : a.eval x = .slice (some ⟨w.heap.size, 0, none⟩) 1 1) (hlen : acc.length + 1 ≤ 2513123006523) (hbase : base ≤ w.heap.size) (hBw : B ≤ w.heap.size)
    (h : ∀ v' w', OwnW w' base v' (acc ++ [y]) → Below B w0 w' → w.heap.size < w'.heap.size → w.grownBy w' v.ownBlock → wpList Try.prog ops Q rest (a.put o.dst v') w') :
    wpList Try.prog ops Q (o :: rest) a (w.alloc (.cells c 34)) :=
  wp_oneX wnC_len wnC_one (by decide) (by decide) rfl Try.underlying23 infoW hgd s x ho B base w0 w v acc y c hc hown hb hB hs hx (by omega) hbase hBw h
/-- How the loop of gather stands. -/
def GatAt (w : World) (wd : Int) (l : List P.Wn) (i vo : Value) (wr : World) : Prop :=
  ∃ k : Nat, k ≤ l.length ∧ i = .int .i64 k ∧ (∀ (j : Nat) x, j < k → l[j]? = some x → -1152921504606846976 ≤ x.t ∧ x.t ≤ 1152921504606846976) ∧ OwnW wr w.heap.size vo (P.grp (P.beg wd) (l.take k)) ∧ Below w.heap.size w wr
/-- What gather hands back. -/
def GatPost (w : World) (l : List P.Wn) (wd : Int) (e : Ending) (w' : World) : Prop :=
  ∃ v', e = .returned (.tuple #[v', .int .i64 (P.rerr l wd)]) ∧ OwnW w' w.heap.size v' (P.rout l wd) ∧ Below w.heap.size w w'
theorem gat_bad {w w' : World} {l : List P.Wn} {wd c : Int} (h : P.rerr l wd = c) (hc : c ≠ 0) (hb : Below w.heap.size w w') : GatPost w l wd (.returned (.tuple #[.slice none 0 0, .int .i64 c])) w' := by
  refine ⟨_, by rw [h], ?_, hb⟩
  rw [P.rout_bad (by omega)]; exact OwnW.nil _ _
theorem gat_ok {w w' : World} {l : List P.Wn} {wd : Int} {v : Value} (h : P.rerr l wd = 0) (ho : OwnW w' w.heap.size v (P.grp (P.beg wd) l)) (hb : Below w.heap.size w w') : GatPost w l wd (.returned (.tuple #[v, .int .i64 0])) w' := by
  refine ⟨_, by rw [h], ?_, hb⟩
  rw [P.rout_ok h]; exact ho
theorem gather_arg (v : Value) (l : List P.Wn) (wd : Int) (w : World) (hr : RowW w v l) (h : wd < 1 ∨ 1099511627776 < wd) : Calls Try.prog 24 #[v, .int .i64 wd] w (GatPost w l wd) := by
  have HG := hide (fun w' hb => gat_bad (w := w) (w' := w') (P.rerr_arg (l := l) h) (by decide) hb)
  obtain ⟨a, cap, rfl, _⟩ := hr
  by_cases h1 : wd < 1
  · clear h
    go_enter Try.func24, Try.ntmps24
    go_wp2
    go_ret2
    exact HG.out _ (Below.refl _ _)
  · have h2 : 1099511627776 < wd := by omega
    have d1 : decide (wd < 1) = false := by simpa using h1
    clear h
    go_enter Try.func24, Try.ntmps24
    go_wp2
    go_ret2
    exact HG.out _ (Below.refl _ _)
set_option maxHeartbeats 4000000 in
theorem gather_any (v : Value) (l : List P.Wn) (wd : Int) (w : World) (hr : RowW w v l) (hlen : l.length ≤ 1000) (h1 : 1 ≤ wd) (h2 : wd ≤ 1099511627776) : Calls Try.prog 24 #[v, .int .i64 wd] w (GatPost w l wd) := by
  have HBad := hide (fun w' c h hc hb => gat_bad (w := w) (w' := w') (l := l) (wd := wd) (c := c) h hc hb)
  have HOk := hide (fun w' v' h ho hb => gat_ok (w := w) (w' := w') (l := l) (wd := wd) (v := v') h ho hb)
  have HFar := hide (fun k x hx h => P.rerr_far (l := l) (w := wd) h1 h2 (k := k) (x := x) hx h)
  have HNear := hide (fun h => P.rerr_near (l := l) h1 h2 (P.far_no h))
  have HBeg := hide (fun t W ht => begin_ok t wd W ht ⟨h1, h2⟩)
  have HBo := hide both_any
  have HCr := hide crowded_any
  have HGl := hide (fun k => show (P.grp (P.beg wd) (l.take k)).length ≤ 1000 from Nat.le_trans (P.grp_length _ _) (by simp; omega))
  obtain ⟨a, cap, rfl, ⟨hlc, hmax, hnn⟩, hcase⟩ := hr
  unfold maxLen at hmax
  have d1 : decide (wd < 1) = false := by simp; omega
  have d2 : decide (1099511627776 < wd) = false := by simp; omega
  go_enter Try.func24, Try.ntmps24
  go_wp2
  go_loopw [18, 6] (fun i vo wr => GatAt w wd l i vo wr) (fun i _ _ => l.length - (intOf i).toNat)
  case atStart => exact ⟨0, by omega, rfl, fun j x hj => by omega, OwnW.nil _ _, Below.refl _ _⟩
  case round =>
    obtain ⟨k, hk, rfl, hfar, hown, hB⟩ := hrel
    have HF := hide hfar
    clear hfar
    have hsz := hB.size
    by_cases hlt : k < l.length
    · rcases hcase with h | ⟨b, off, rfl, hbs, hcell⟩
      · rw [h] at hlt; simp at hlt
      have j0 : (0 : Int) ≤ (k : Int) := by omega
      have j1 : (k : Int) < (l.length : Int) := by omega
      obtain ⟨x, hx⟩ : ∃ x, l[k]? = some x := ⟨_, List.getElem?_eq_getElem hlt⟩
      obtain ⟨q0, q1, q2, q3, q4, q5, q6⟩ := (RowW.at hcell hx).below hB hbs
      have HX := hide hx
      have HT := hide (P.grp_take (g := P.beg wd) hx)
      have hOl := HGl.out k
      have HFx := hide (HFar.out k x hx)
      clear hcell hx
      obtain ⟨t, n, s, mn, mx, f, l'⟩ := x
      simp only at q0 q1 q2 q3 q4 q5 q6
      by_cases hf : t < -1152921504606846976 ∨ 1152921504606846976 < t
      · have HA := hide (HFx.out hf)
        by_cases hf1 : t < -1152921504606846976
        · clear hf
          go_wp2
          go_ret2
          exact HBad.out _ _ HA.out (by decide) (hB.alloc hsz _)
        · have hf2 : 1152921504606846976 < t := by omega
          have hd1 : decide (t < -1152921504606846976) = false := by simpa using hf1
          clear hf
          go_wp2
          go_ret2
          exact HBad.out _ _ HA.out (by decide) (hB.alloc hsz _)
      · have hd1 : decide (t < -1152921504606846976) = false := by simp; omega
        have hd2 : decide (1152921504606846976 < t) = false := by simp; omega
        have ht : -1152921504606846976 ≤ t ∧ t ≤ 1152921504606846976 := by omega
        have HBx := hide (fun W => HBeg.out t W ht)
        have HNew : Hid (∀ (j : Nat) x, j < k + 1 → l[j]? = some x → -1152921504606846976 ≤ x.t ∧ x.t ≤ 1152921504606846976) := by
          intro j y hj hy
          rcases Nat.lt_or_ge j k with h | h
          · exact HF.out j y h hy
          · obtain rfl : j = k := by omega
            rw [HX.out] at hy
            cases hy
            exact ht
        clear hf ht HBeg HF
        generalize P.grp (P.beg wd) (l.take k) = O at *
        generalize hbt : P.beg wd t = bt at *
        clear hbt
        by_cases hO : O = []
        · subst hO
          have HN : Hid (P.cat [] [P.at' bt ⟨t, n, s, mn, mx, f, l'⟩] = [⟨bt, n, s, mn, mx, f, l'⟩]) := rfl
          obtain ⟨ao, co, hvo⟩ := hown.shp
          rw [hvo] at hown ⊢
          go_wp2_with (go_at_call 34; go_must (refine (HBx.out _).mono ?_); rintro e w' ⟨rfl, rfl⟩)
          go_quiet (fail)
          obtain ⟨W, hW⟩ : ∃ W, (wr.alloc (.cells #[.int .i64 bt, .int .i64 n, .int .i64 s, .int .i64 mn, .int .i64 mx, .int .i64 f, .int .i64 l'] 34)).drewN nq = W := ⟨_, rfl⟩
          rw [hW]
          have o1 : OwnW W w.heap.size (.slice ao 0 co) [] := by rw [← hW]; exact hown.below (below_dn (bel_a _ _) _) (Nat.le_refl _)
          have b1 : Below w.heap.size w W := by rw [← hW]; exact below_dn (hB.alloc hsz _) _
          obtain ⟨z0, z1, z2, z3, z4, z5, z6⟩ : At7 W wr.heap.size 0 ⟨bt, n, s, mn, mx, f, l'⟩ := by rw [← hW]; exact (at7_new wr ⟨bt, n, s, mn, mx, f, l'⟩ 34).dn nq
          simp only at z0 z1 z2 z3 z4 z5 z6
          clear hW
          go_wp2_with (at_builtin; go_must (refine wp_oneW rfl _ _ rfl w.heap.size w.heap.size w _ _ [] ⟨bt, n, s, mn, mx, f, l'⟩ _ rfl o1 b1 (Nat.le_refl _) rfl rfl (by simp) (Nat.le_trans b1.size (Nat.le_refl _)) b1.size ?_); intro v2 w2 own2 hb2 _ _)
          go_roundw
          case rel => exact ⟨k + 1, by omega, by go_num, HNew.out, by rw [HT.out, HN.out]; exact own2, hb2⟩
          case measure => simp [intOf]; omega
        · obtain ⟨A, y, rfl⟩ := P.last_of hO
          obtain ⟨i, hi⟩ : ∃ i, i = A.length := ⟨_, rfl⟩
          have hil : (A ++ [y]).length = i + 1 := by simp [hi]
          obtain ⟨ao, co, hvo⟩ := hown.shp
          rw [hil] at hvo
          rw [hvo] at hown ⊢
          clear hO hvo
          obtain ⟨_, _, hv8, ⟨hco, hmo, hno⟩, hcO⟩ := hown.row
          simp only [Value.slice.injEq] at hv8
          obtain ⟨rfl, hq, rfl⟩ := hv8
          rw [hil] at hco
          clear hq hno
          rcases hcO with h | ⟨g, off', rfl, hgs, hcc⟩
          · simp at h
          have h0 : off' = 0 := by
            rcases hown.2 with ⟨h, _⟩ | ⟨g', c', cur, h, _⟩
            · cases h
            · simp at h; exact h.1.2
          subst h0
          have hy : At7 wr g (i * 7) y := by
            have := RowW.at hcc (k := i) (x := y) (by rw [hi]; simp)
            rwa [Nat.zero_add] at this
          clear hcc
          have hmo' : co ≤ 9223372036854775807 := hmo
          have e1 : IntKind.i64.wrap (((i + 1 : Nat) : Int) - 1) = (i : Int) := by rw [IntKind.wrap_i64]; omega
          have i0 : (0 : Int) ≤ (i : Int) := by omega
          have i1 : (i : Int) < ((i + 1 : Nat) : Int) := by omega
          have HI := hide hi
          have HLn := hide hil
          rw [hil] at hOl
          clear hi hil
          have hgw := (OwnX.blk hown).1
          have o1 : OwnW ((wr.alloc (.cells #[.int .i64 bt, .int .i64 n, .int .i64 s, .int .i64 mn, .int .i64 mx, .int .i64 f, .int .i64 l'] 34))) w.heap.size _ (A ++ [y]) := hown.below (bel_a _ _) (Nat.le_refl _)
          have b1 : Below w.heap.size w (wr.alloc (.cells #[.int .i64 bt, .int .i64 n, .int .i64 s, .int .i64 mn, .int .i64 mx, .int .i64 f, .int .i64 l'] 34)) := hB.alloc hsz _
          obtain ⟨p0, p1, p2, p3, p4, p5, p6⟩ := hy.below (bel_a wr (.cells #[.int .i64 bt, .int .i64 n, .int .i64 s, .int .i64 mn, .int .i64 mx, .int .i64 f, .int .i64 l'] 34)) hgs
          clear hy
          obtain ⟨yt, yn, ys, ymn, ymx, yf, yl⟩ := y
          simp only at p0 p1 p2 p3 p4 p5 p6
          by_cases hyt : yt = bt
          · have ey : (yt == bt) = true := by simp [hyt]
            have HC := hide (P.cat_same (O := A) (x := ⟨yt, yn, ys, ymn, ymx, yf, yl⟩) (y := P.at' bt ⟨t, n, s, mn, mx, f, l'⟩) hyt)
            clear hyt
            go_wp2_with (go_at_call 34; go_must (refine (HBx.out _).mono ?_); rintro e w' ⟨rfl, rfl⟩)
            go_quiet (fail)
            go_wp2
            obtain ⟨W, hW⟩ : ∃ W, (wr.alloc (.cells #[.int .i64 bt, .int .i64 n, .int .i64 s, .int .i64 mn, .int .i64 mx, .int .i64 f, .int .i64 l'] 34)).drewN nq = W := ⟨_, rfl⟩
            rw [hW]
            have o2 : OwnW W w.heap.size (.slice (some ⟨g, 0, none⟩) (i + 1) co) (A ++ [⟨yt, yn, ys, ymn, ymx, yf, yl⟩]) := by rw [← hW]; exact o1.below (below_dn (Below.refl _ _) nq) (Nat.le_refl _)
            have b2 : Below w.heap.size w W := by rw [← hW]; exact below_dn b1 nq
            obtain ⟨z0, z1, z2, z3, z4, z5, z6⟩ : At7 W wr.heap.size 0 ⟨bt, n, s, mn, mx, f, l'⟩ := by rw [← hW]; exact (at7_new wr ⟨bt, n, s, mn, mx, f, l'⟩ 34).dn nq
            have hyW : At7 W g (i * 7) ⟨yt, yn, ys, ymn, ymx, yf, yl⟩ := by rw [← hW]; exact At7.dn ⟨p0, p1, p2, p3, p4, p5, p6⟩ nq
            have hgW : g < W.heap.size := (OwnX.blk o2).2
            clear hW p0 p1 p2 p3 p4 p5 p6 o1 b1 hown
            obtain ⟨p0, p1, p2, p3, p4, p5, p6⟩ := id hyW
            simp only at z0 z1 z2 z3 z4 z5 z6 p0 p1 p2 p3 p4 p5 p6
            have HO2 := hide o2
            have HYW := hide hyW
            have HW2 := hide (fun w2 (h : Below W.heap.size W w2) => (show OwnW w2 w.heap.size (.slice (some ⟨g, 0, none⟩) (i + 1) co) (A ++ [⟨yt, yn, ys, ymn, ymx, yf, yl⟩]) from o2.below h (Nat.le_refl _)))
            have HYW2 := hide (fun w2 (h : Below W.heap.size W w2) => hyW.below h hgW)
            clear o2 hyW
            have HB1 := hide (fun w => HBo.out ⟨yt, yn, ys, ymn, ymx, yf, yl⟩ (P.at' bt ⟨t, n, s, mn, mx, f, l'⟩) w)
            generalize P.bo ⟨yt, yn, ys, ymn, ymx, yf, yl⟩ (P.at' bt ⟨t, n, s, mn, mx, f, l'⟩) = z at HB1 HC
            obtain ⟨r0, r1, r2, r3, r4, r5, r6⟩ := z
            simp only [wnV, P.at'] at HB1
            go_region_with (go_at_call 35; refine (HB1.out _).mono ?_; rintro e w2 ⟨rfl, hb2⟩; replace hb2 := below_of_drew hb2; have hO3 := HW2.out w2 hb2; obtain ⟨c0, c1, c2, c3, c4, c5, c6⟩ := HYW2.out w2 hb2; have f0 := OwnX.unfrozen hO3 (i * 7); have f1 := OwnX.unfrozen hO3 (i * 7 + 1); have f2 := OwnX.unfrozen hO3 (i * 7 + 2); have f3 := OwnX.unfrozen hO3 (i * 7 + 3); have f4 := OwnX.unfrozen hO3 (i * 7 + 4); have f5 := OwnX.unfrozen hO3 (i * 7 + 5); have f6 := OwnX.unfrozen hO3 (i * 7 + 6))
            all_goals
              go_wp2
              go_roundw
              case rel => exact ⟨k + 1, by omega, by go_num, HNew.out, by rw [HT.out, HC.out, ← HI.out]; exact OwnX.set wnC_len hO3 (by have := HLn.out; simp at this ⊢; omega) ⟨r0, r1, r2, r3, r4, r5, r6⟩, below_setRow (wnC ⟨r0, r1, r2, r3, r4, r5, r6⟩) (Below.next b2 hb2) hgw⟩
              case measure => simp [intOf]; omega
          · have ey : (yt == bt) = false := by simp [hyt]
            have HC := hide (P.cat_other (O := A) (x := ⟨yt, yn, ys, ymn, ymx, yf, yl⟩) (y := P.at' bt ⟨t, n, s, mn, mx, f, l'⟩) hyt)
            clear hyt
            go_wp2_with (go_at_call 34; go_must (refine (HBx.out _).mono ?_); rintro e w' ⟨rfl, rfl⟩)
            go_quiet (fail)
            obtain ⟨W, hW⟩ : ∃ W, (wr.alloc (.cells #[.int .i64 bt, .int .i64 n, .int .i64 s, .int .i64 mn, .int .i64 mx, .int .i64 f, .int .i64 l'] 34)).drewN nq = W := ⟨_, rfl⟩
            rw [hW]
            have o2 : OwnW W w.heap.size (.slice (some ⟨g, 0, none⟩) (i + 1) co) (A ++ [⟨yt, yn, ys, ymn, ymx, yf, yl⟩]) := by rw [← hW]; exact o1.below (below_dn (Below.refl _ _) nq) (Nat.le_refl _)
            have b2 : Below w.heap.size w W := by rw [← hW]; exact below_dn b1 nq
            obtain ⟨z0, z1, z2, z3, z4, z5, z6⟩ : At7 W wr.heap.size 0 ⟨bt, n, s, mn, mx, f, l'⟩ := by rw [← hW]; exact (at7_new wr ⟨bt, n, s, mn, mx, f, l'⟩ 34).dn nq
            simp only at z0 z1 z2 z3 z4 z5 z6
            clear hW p0 p1 p2 p3 p4 p5 p6
            go_wp2_with (at_builtin; go_must (refine wp_oneW rfl _ _ rfl w.heap.size w.heap.size w _ _ (A ++ [⟨yt, yn, ys, ymn, ymx, yf, yl⟩]) ⟨bt, n, s, mn, mx, f, l'⟩ _ rfl o2 b2 (Nat.le_refl _) rfl rfl (by have := HLn.out; omega) b2.size b2.size ?_); intro v3 w3 own3 hb3 _ _)
            go_roundw
            case rel => exact ⟨k + 1, by omega, by go_num, HNew.out, by rw [HT.out, HC.out]; exact own3, hb3⟩
            case measure => simp [intOf]; omega
    · have hd : decide ((k : Int) < (l.length : Int)) = false := by simp; omega
      have hkl : k = l.length := by omega
      rw [hkl, List.take_length] at hown
      have HNr := hide (HNear.out fun j x hj hx => HF.out j x (by omega) hx)
      have HO := hide hown
      have HCx := hide (fun w' (hb : Below wr.heap.size wr w') => HCr.out u6 (P.grp (P.beg wd) l) w' (hown.row.below hb (Nat.le_refl _)))
      clear hkl HF HNear HFar HGl
      cases hcr : P.crowd (P.grp (P.beg wd) l) with
      | true =>
        rw [hcr] at HCx HNr
        have HA : Hid (P.rerr l wd = 2) := HNr.out
        clear hcr
        go_wp2_with (go_at_call 32; go_must (refine (HCx.out _ (Below.refl _ _)).mono ?_); rintro e w' ⟨rfl, hb'⟩)
        go_ret2
        exact HBad.out _ _ HA.out (by decide) (Below.next hB hb')
      | false =>
        rw [hcr] at HCx HNr
        have HA : Hid (P.rerr l wd = 0) := HNr.out
        clear hcr
        go_wp2_with (go_at_call 32; go_must (refine (HCx.out _ (Below.refl _ _)).mono ?_); rintro e w' ⟨rfl, hb'⟩)
        go_ret2
        exact HOk.out _ _ HA.out (HO.out.below hb' (Nat.le_refl _)) (Below.next hB hb')
end Go.Proofs.Ytgfjhcjplhlonaa
