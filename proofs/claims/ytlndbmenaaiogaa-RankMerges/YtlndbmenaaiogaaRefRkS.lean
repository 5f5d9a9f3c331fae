/- What the reference's Inserted, SameRank, RankBounds and Kept answer. -/
import Derived.Test.YtlndbmenaaiogaaRefRkI
import Derived.Test.YtlndbmenaaiogaaRefRkM
import Derived.Test.YtlndbmenaaiogaaRankK
import Derived.Test.YtlndbmenaaiogaaRankE
namespace Go.Proofs.Ytlndbmenaaiogaa
open Go.RowKit
set_option linter.unusedVariables false
/-- How the loop of Inserted stands. -/
def InsAt (w : World) (l : List Int) (x : Int) (i vo p : Value) (wr : World) : Prop :=
  ∃ (j : Nat) (put : Bool) (out : List Int), j ≤ l.length ∧ i = .int .i64 j ∧ p = .bool put ∧ OwnI wr w.heap.size vo out ∧ out ++ P.rest x put (l.drop j) = P.insP x l ∧ out.length ≤ j + (if put then 1 else 0) ∧ Below w.heap.size w wr
set_option maxHeartbeats 1000000 in
theorem inserted_any (v : Value) (l : List Int) (x : Int) (w : World) (h : RowK .i64 w v l) (hi : P.Inc l) (hl : l.length ≤ 100000) :
    Calls Try.prog 35 #[v, .int .i64 x] w fun e w' => ∃ v', e = .returned v' ∧ OwnI w' w.heap.size v' (P.ins x l) ∧ Below w.heap.size w w' := by
  have HE := hide (P.insP_ins (v := x) hi)
  obtain ⟨a, cap, rfl, ⟨hlc, hmax, hnn⟩, hcase⟩ := h
  unfold maxLen at hmax
  clear hi hnn
  go_enter Try.func35, Try.ntmps35
  go_wp2
  go_loopw [11, 5, 6] (fun i vo p wr => InsAt w l x i vo p wr) (fun i _ _ _ => l.length - (intOf i).toNat)
  case atStart => exact ⟨0, false, [], by omega, rfl, rfl, OwnK.nil _ _ _ _, by simp [P.rest], by simp, Below.refl _ _⟩
  case round =>
    obtain ⟨j, put, out, hj, rfl, rfl, hown, hout, hlen, hB⟩ := hrel
    have hsz := hB.size
    obtain ⟨ao, co, rfl⟩ := OwnK.shape hown
    have HO := hide hown
    have HR := hide hout
    have HB := hide hB
    by_cases hlt : j < l.length
    · rcases hcase with h | ⟨b, off, rfl, hbs, hcell⟩
      · rw [h] at hlt; simp at hlt
      have q0 := (hB.cell (p := ⟨b, off + j, none⟩) hbs).trans (hcell j hlt)
      have j0 : (0 : Int) ≤ (j : Int) := by omega
      have j1 : (j : Int) < (l.length : Int) := by omega
      have hd := P.drop_at l hlt
      rw [hd] at HR
      generalize l.getD j 0 = y at *
      clear hcell hown hout hB hd
      cases put with
      | true =>
        rw [P.rest_put] at HR
        simp only [if_true] at hlen
        go_wp2_with (at_builtin; go_must (refine wp_app1K rfl _ _ 22 2 .i64 8 rfl Try.underlying22 Try.info2 (by omega) w.heap.size w.heap.size w _ _ out y HO.out HB.out (Nat.le_refl _) rfl rfl (by omega) hsz ?_); intro v1 w1 own1 hb1 _ _)
        go_roundw
        case rel => exact ⟨j + 1, true, out ++ [y], by omega, by go_num, rfl, own1, by rw [← HR.out]; simp, by simp; omega, hb1⟩
        case measure => simp [intOf]; omega
      | false =>
        simp only [Bool.false_eq_true, if_false] at hlen
        by_cases hv : x < y
        · rw [P.rest_new _ hv] at HR
          obtain ⟨o1, ho1⟩ : ∃ o, o = out ++ [x] := ⟨_, rfl⟩
          have HO1 := hide ho1
          have hol : o1.length ≤ 100001 := by rw [ho1]; simp; omega
          have hol2 : o1.length = out.length + 1 := by rw [ho1]; simp
          have HOL := hide hol2
          clear ho1 hol2
          go_wp2_with (at_builtin; first
            | (refine wp_app1K rfl _ _ 22 2 .i64 8 rfl Try.underlying22 Try.info2 (by omega) w.heap.size w.heap.size w _ _ o1 y own1 hb1 (Nat.le_refl _) rfl rfl (by omega) (Nat.le_trans hsz (Nat.le_of_lt hs1)) ?_; intro v2 w2 own2 hb2 _ _)
            | (refine wp_app1K rfl _ _ 22 2 .i64 8 rfl Try.underlying22 Try.info2 (by omega) w.heap.size w.heap.size w _ _ out x HO.out HB.out (Nat.le_refl _) rfl rfl (by omega) hsz ?_; intro v1 w1 own1 hb1 hs1 _; rw [← HO1.out] at own1; obtain ⟨a1, c1, rfl⟩ := OwnK.shape own1))
          go_roundw
          case rel => exact ⟨j + 1, true, o1 ++ [y], by omega, by go_num, rfl, own2, by rw [← HR.out, HO1.out]; simp, by have := HOL.out; simp; omega, hb2⟩
          case measure => simp [intOf]; omega
        · have hd : decide (x < y) = false := by simpa using hv
          rw [P.rest_on _ hv] at HR
          clear hv
          go_wp2_with (at_builtin; go_must (refine wp_app1K rfl _ _ 22 2 .i64 8 rfl Try.underlying22 Try.info2 (by omega) w.heap.size w.heap.size w _ _ out y HO.out HB.out (Nat.le_refl _) rfl rfl (by omega) hsz ?_); intro v1 w1 own1 hb1 _ _)
          go_roundw
          case rel => exact ⟨j + 1, false, out ++ [y], by omega, by go_num, rfl, own1, by rw [← HR.out]; simp, by simp; omega, hb1⟩
          case measure => simp [intOf]; omega
    · have hd2 : decide ((j : Int) < (l.length : Int)) = false := by simp; omega
      obtain rfl : j = l.length := by omega
      rw [List.drop_length, P.rest_end] at HR
      clear hown hout hB
      cases put with
      | true =>
        simp only [if_true] at hlen
        go_wp2
        go_ret
        exact ⟨_, rfl, by rw [← HE.out, ← HR.out]; simpa using HO.out, HB.out⟩
      | false =>
        simp only [Bool.false_eq_true, if_false] at hlen HR
        obtain ⟨o1, ho1⟩ : ∃ o, o = out ++ [x] := ⟨_, rfl⟩
        have HO1 := hide ho1
        clear ho1
        go_wp2_with (at_builtin; go_must (refine wp_app1K rfl _ _ 22 2 .i64 8 rfl Try.underlying22 Try.info2 (by omega) w.heap.size w.heap.size w _ _ out x HO.out HB.out (Nat.le_refl _) rfl rfl (by omega) hsz ?_); intro v1 w1 own1 hb1 _ _; rw [← HO1.out] at own1; obtain ⟨a1, c1, rfl⟩ := OwnK.shape own1)
        go_ret
        exact ⟨_, rfl, by rw [← HE.out, ← HR.out, ← HO1.out]; exact own1, hb1⟩
set_option maxHeartbeats 2000000 in
/-- A rank that lies there twice is the same. -/
theorem sameRank_yes (t1 l1 t2 l2 : Value) (s : P.Rk) (w : World) (h1 : RkV w t1 l1 s) (h2 : RkV w t2 l2 s) : Calls Try.prog 11 #[aggR t1 l1 s, aggR t2 l2 s] w fun e w' => e = .returned (.bool true) ∧ Below w.heap.size w w' := by
  obtain ⟨al, cl, rfl, ⟨hlc, hmax⟩, hcase⟩ := h1.lv
  obtain ⟨am, cm, rfl, ⟨hmc, hmax2⟩, hcase2⟩ := h2.lv
  unfold maxLen at hmax hmax2
  have hB : Below w.heap.size w ((w.alloc (.cells #[.int .i64 s.k, t1, .slice al s.lv.length cl, .int .i64 s.n, .int .i64 s.sl] 25)).alloc (.cells #[.int .i64 s.k, t2, .slice am s.lv.length cm, .int .i64 s.n, .int .i64 s.sl] 25)) := ((Below.refl _ w).alloc (Nat.le_refl _) _).alloc (by simp) _
  have hX1 : BoxR ((w.alloc (.cells #[.int .i64 s.k, t1, .slice al s.lv.length cl, .int .i64 s.n, .int .i64 s.sl] 25)).alloc (.cells #[.int .i64 s.k, t2, .slice am s.lv.length cm, .int .i64 s.n, .int .i64 s.sl] 25)) w.heap.size t1 (.slice al s.lv.length cl) s :=
    BoxR.below (BoxR.new w t1 _ s) ((Below.refl _ _).alloc (Nat.le_refl _) _)
  have hX2 : BoxR ((w.alloc (.cells #[.int .i64 s.k, t1, .slice al s.lv.length cl, .int .i64 s.n, .int .i64 s.sl] 25)).alloc (.cells #[.int .i64 s.k, t2, .slice am s.lv.length cm, .int .i64 s.n, .int .i64 s.sl] 25)) (w.heap.size + 1) t2 (.slice am s.lv.length cm) s := by
    have := BoxR.new (w.alloc (.cells #[.int .i64 s.k, t1, .slice al s.lv.length cl, .int .i64 s.n, .int .i64 s.sl] 25)) t2 (.slice am s.lv.length cm) s
    simpa using this
  have HBw := hide hB
  obtain ⟨b0, b1, b2, b3, b4⟩ := hX1.cells
  obtain ⟨c0, c1, c2, c3, c4⟩ := hX2.cells
  have HT := hide (sameNumbers_yes t1 t2 s.tail _ (h1.tail.below hB (Nat.le_refl _)) (h2.tail.below hB (Nat.le_refl _)))
  have HS := hide (fun u v l w h h' => sameNumbers_yes u v l w h h')
  have e0 : (s.k != s.k) = false := by simp
  have e1 : (s.n != s.n) = false := by simp
  have e2 : (s.sl != s.sl) = false := by simp
  have e3 : ((s.lv.length : Int) != (s.lv.length : Int)) = false := by simp
  clear h1 h2 hB hX1 hX2
  go_enter Try.func11, Try.ntmps11
  go_wp2_with (go_at_call 30; go_must (refine HT.out.mono ?_); rintro e w1 ⟨rfl, q, rfl⟩)
  have HB1 := hide (below_dn HBw.out q)
  have d2 : (World.drewN ((w.alloc (.cells #[.int .i64 s.k, t1, .slice al s.lv.length cl, .int .i64 s.n, .int .i64 s.sl] 25)).alloc (.cells #[.int .i64 s.k, t2, .slice am s.lv.length cm, .int .i64 s.n, .int .i64 s.sl] 25)) q).cell? ⟨w.heap.size, 2, none⟩ = some (.slice al s.lv.length cl) := b2
  have f2 : (World.drewN ((w.alloc (.cells #[.int .i64 s.k, t1, .slice al s.lv.length cl, .int .i64 s.n, .int .i64 s.sl] 25)).alloc (.cells #[.int .i64 s.k, t2, .slice am s.lv.length cm, .int .i64 s.n, .int .i64 s.sl] 25)) q).cell? ⟨w.heap.size + 1, 2, none⟩ = some (.slice am s.lv.length cm) := c2
  clear b0 b1 b2 b3 b4 c0 c1 c2 c3 c4 HT HBw
  generalize World.drewN ((w.alloc (.cells #[.int .i64 s.k, t1, .slice al s.lv.length cl, .int .i64 s.n, .int .i64 s.sl] 25)).alloc (.cells #[.int .i64 s.k, t2, .slice am s.lv.length cm, .int .i64 s.n, .int .i64 s.sl] 25)) q = W1 at *
  go_loopw [45] (fun i wr => ∃ j : Nat, j ≤ s.lv.length ∧ i = .int .i64 j ∧ ∃ q, wr = W1.drewN q) (fun i _ => s.lv.length - (intOf i).toNat)
  case atStart => exact ⟨0, by omega, rfl, 0, rfl⟩
  case round =>
    obtain ⟨j, hj, rfl, hq⟩ := hrel
    have HQ := hide hq
    have hcw : ∀ (p : Addr), wr.cell? p = W1.cell? p := by obtain ⟨q, rfl⟩ := hq; exact fun _ => rfl
    have HBr : Hid (Below w.heap.size w wr) := by obtain ⟨q, rfl⟩ := hq; exact below_dn HB1.out q
    clear hq
    by_cases hlt : j < s.lv.length
    · rcases hcase with h | ⟨b, off, rfl, hbs, hcell⟩
      · rw [h] at hlt; simp at hlt
      rcases hcase2 with h | ⟨b2, off2, rfl, hbs2, hcell2⟩
      · rw [h] at hlt; simp at hlt
      have j0 : (0 : Int) ≤ (j : Int) := by omega
      have j1 : (j : Int) < (s.lv.length : Int) := by omega
      obtain ⟨l, hx⟩ : ∃ y, s.lv[j]? = some y := ⟨_, List.getElem?_eq_getElem hlt⟩
      obtain ⟨u, g0, hu⟩ := hcell j l hx
      obtain ⟨v, g1, hv⟩ := hcell2 j l hx
      have x0 := fun n => (show (wr.drewN n).cell? ⟨b, off + j, none⟩ = _ from (HBr.out.cell (p := ⟨b, off + j, none⟩) hbs).trans g0)
      have x1 := fun n => (show (wr.drewN n).cell? ⟨b2, off2 + j, none⟩ = _ from (HBr.out.cell (p := ⟨b2, off2 + j, none⟩) hbs2).trans g1)
      have y0 := fun n => (show (wr.drewN n).cell? ⟨w.heap.size, 2, none⟩ = _ from (hcw _).trans d2)
      have y1 := fun n => (show (wr.drewN n).cell? ⟨w.heap.size + 1, 2, none⟩ = _ from (hcw _).trans f2)
      have HSj := hide (fun n => HS.out u v l (wr.drewN n) (hu.below (below_dn HBr.out n) (Nat.le_refl _)) (hv.below (below_dn HBr.out n) (Nat.le_refl _)))
      clear hcell hcell2 hcw g0 g1 hu hv hx d2 f2
      go_wp2
      go_quiet ((go_at_call 30; exact Calls.quiet_of (HSj.out _)))
      go_wp2
      go_roundw
      case rel => exact ⟨j + 1, by omega, by go_num, dn_ex HQ.out _⟩
      case measure => simp [intOf]; omega
    · have hd2 : decide ((j : Int) < (s.lv.length : Int)) = false := by simp; omega
      obtain rfl : j = s.lv.length := by omega
      go_wp2
      go_ret
      exact ⟨rfl, HBr.out⟩
theorem rankBounds_ok (tv : Value) (a : Option Addr) (c : Nat) (s : P.Rk) (w : World) (h : P.bndE s = 0) (ht : ∃ x y, tv = .slice x s.tail.length y) :
    Calls Try.prog 14 #[aggR tv (.slice a s.lv.length c) s] w fun e w' => e = .returned (.tuple #[aggR tv (.slice a s.lv.length c) s, .int .i64 0]) ∧ Below w.heap.size w w' := by
  obtain ⟨x, y, rfl⟩ := ht
  have h1 : ¬ (20 < s.lv.length ∨ 1152921504606846976 < s.sl) := fun hc => by unfold P.bndE at h; rw [if_pos hc] at h; cases h
  have hd1 : decide (20 < (s.lv.length : Int)) = false := by simp; omega
  have hd2 : decide (1152921504606846976 < s.sl) = false := by simp; omega
  have HB := hide ((Below.refl _ w).alloc (Nat.le_refl _) (.cells #[.int .i64 s.k, .slice x s.tail.length y, .slice a s.lv.length c, .int .i64 s.n, .int .i64 s.sl] 25))
  clear h h1
  go_enter Try.func14, Try.ntmps14
  go_wp2
  refine bodyPost_ret (v := .tuple #[aggR (.slice x s.tail.length y) (.slice a s.lv.length c) s, .int .i64 0]) (by simp [results, Try.results14, go_sem]) rfl ⟨rfl, ?_⟩
  exact HB.out.alloc HB.out.size _
theorem rankBounds_bad (tv : Value) (a : Option Addr) (c : Nat) (s : P.Rk) (w : World) (h : P.bndE s ≠ 0) (ht : ∃ x y, tv = .slice x s.tail.length y) :
    Calls Try.prog 14 #[aggR tv (.slice a s.lv.length c) s] w fun e w' => e = .returned (.tuple #[zeroR, .int .i64 2]) ∧ Below w.heap.size w w' := by
  obtain ⟨x, y, rfl⟩ := ht
  have h1 : 20 < s.lv.length ∨ 1152921504606846976 < s.sl := Classical.byContradiction fun hc => by unfold P.bndE at h; rw [if_neg hc] at h; exact h rfl
  have HB := hide ((Below.refl _ w).alloc (Nat.le_refl _) (.cells #[.int .i64 s.k, .slice x s.tail.length y, .slice a s.lv.length c, .int .i64 s.n, .int .i64 s.sl] 25))
  by_cases h2 : 20 < s.lv.length
  · have hd1 : decide (20 < (s.lv.length : Int)) = true := by simp; omega
    clear h h1
    go_enter Try.func14, Try.ntmps14
    go_wp2
    refine bodyPost_ret (v := .tuple #[zeroR, .int .i64 2]) (by simp [results, Try.results14, go_sem]) rfl ⟨rfl, ?_⟩
    exact HB.out.alloc HB.out.size _
  · have hd1 : decide (20 < (s.lv.length : Int)) = false := by simp; omega
    have hd2 : decide (1152921504606846976 < s.sl) = true := by simp; omega
    clear h h1 h2
    go_enter Try.func14, Try.ntmps14
    go_wp2
    refine bodyPost_ret (v := .tuple #[zeroR, .int .i64 2]) (by simp [results, Try.results14, go_sem]) rfl ⟨rfl, ?_⟩
    exact HB.out.alloc HB.out.size _
theorem flt_max (L : List (List Int)) (h : ∀ l ∈ L, l.length ≤ 64) : (flt L).length ≤ L.length * 64 := by
  induction L with
  | nil => simp [flt]
  | cons l r ih =>
    have h1 := ih fun m hm => h m (by simp [hm])
    have h2 := h l (by simp)
    unfold flt at *
    rw [List.flatten_cons, List.length_append, List.length_cons]; omega
/-- How the loop of Kept stands. -/
def KepAt (w : World) (t : List Int) (L : List (List Int)) (i vo : Value) (wr : World) : Prop :=
  ∃ j : Nat, j ≤ L.length ∧ i = .int .i64 j ∧ OwnI wr w.heap.size vo (t ++ flt (L.take j)) ∧ Below w.heap.size w wr
set_option maxHeartbeats 1000000 in
theorem kept_any (tv lv : Value) (s : P.Rk) (w : World) (hr : RkV w tv lv s) (hg : P.Good s) :
    Calls Try.prog 21 #[aggR tv lv s] w fun e w' => ∃ v, e = .returned v ∧ OwnI w' w.heap.size v (s.tail ++ flt s.lv) ∧ Below w.heap.size w w' := by
  have h20 := hg.2.1
  have hl64 : ∀ l ∈ s.lv, l.length ≤ 64 := fun l hl => by have := (hg.1.lv l hl).2; have := hg.1.k64; omega
  have ht64 : s.tail.length ≤ 64 := by have := hg.1.room; have := hg.1.k64; omega
  have HFm := hide (flt_max s.lv hl64)
  have hfm : (flt s.lv).length ≤ 1280 := by have := HFm.out; omega
  obtain ⟨al, cl, rfl, ⟨hlc, hmax⟩, hcase⟩ := hr.lv
  unfold maxLen at hmax
  have HT := hide (fun wx (hb : Below w.heap.size w wx) => hr.tail.below hb (Nat.le_refl _))
  obtain ⟨at', ct, rfl, htc, hmt⟩ := hr.tail.nil_of
  have HB := hide ((Below.refl _ w).alloc (Nat.le_refl _) (.cells #[.int .i64 s.k, .slice at' s.tail.length ct, .slice al s.lv.length cl, .int .i64 s.n, .int .i64 s.sl] 25))
  obtain ⟨b0, b1, b2, b3, b4⟩ := box5 (w := w) (c0 := .int .i64 s.k) (c1 := .slice at' s.tail.length ct) (c2 := .slice al s.lv.length cl) (c3 := .int .i64 s.n) (c4 := .int .i64 s.sl) (t := 25)
  have HLl := hide hl64
  clear hr hg hl64
  go_enter Try.func21, Try.ntmps21
  have hsz0 := HB.out.size
  have hW1 : w.heap.size < (w.alloc (.cells #[.int .i64 s.k, .slice at' s.tail.length ct, .slice al s.lv.length cl, .int .i64 s.n, .int .i64 s.sl] 25)).heap.size := by simp
  go_wp2_with (at_builtin; go_must (refine wp_appI rfl _ _ rfl w.heap.size w.heap.size w _ _ _ [] s.tail (OwnK.nil _ _ _ _) (HT.out _ HB.out) HB.out (Nat.le_refl _) rfl rfl (by simp; omega) hsz0 ?_); intro v1 w1 own1 hb1 hs1 hg1; rw [List.nil_append] at own1; obtain ⟨a1, c1, rfl⟩ := OwnK.shape own1; have d2 := (hg1.block w.heap.size hW1 (by simp [Value.ownBlock])); have e2 : w1.cell? ⟨w.heap.size, 2, none⟩ = some (.slice al s.lv.length cl) := (World.cell?_of_block d2).trans b2; clear d2)
  have HB1 := hide hb1
  clear b0 b1 b2 b3 b4
  have hs2 := hb1.size
  go_loopw [12, 3] (fun i vo wr => KepAt w s.tail s.lv i vo wr) (fun i _ _ => s.lv.length - (intOf i).toNat)
  case atStart => exact ⟨0, by omega, rfl, by simp [flt]; exact own1, hb1⟩
  case round =>
    obtain ⟨j, hj, rfl, hown, hB⟩ := hrel
    have hsz := hB.size
    have hfl := flat_le s.lv j
    by_cases hlt : j < s.lv.length
    · rcases hcase with h | ⟨b, off, rfl, hbs, hcell⟩
      · rw [h] at hlt; simp at hlt
      have j0 : (0 : Int) ≤ (j : Int) := by omega
      have j1 : (j : Int) < (s.lv.length : Int) := by omega
      obtain ⟨l, hx⟩ : ∃ y, s.lv[j]? = some y := ⟨_, List.getElem?_eq_getElem hlt⟩
      obtain ⟨vj, g0, hrow⟩ := hcell j l hx
      have g1 := (hB.cell (p := ⟨b, off + j, none⟩) hbs).trans g0
      have HR := hide (hrow.below hB (Nat.le_refl _))
      have hl64 := HLl.out l (List.mem_of_getElem? hx)
      have HF := hide (flat_take s.lv j l hx)
      obtain ⟨ar, cr, rfl, hlr, hmr⟩ := hrow.nil_of
      obtain ⟨acc, hacc⟩ : ∃ acc, acc = s.tail ++ flt (s.lv.take j) := ⟨_, rfl⟩
      have hal : acc.length ≤ 2000 := by rw [hacc, List.length_append]; omega
      rw [← hacc] at hown
      have HA := hide hacc
      obtain ⟨ao, co, rfl⟩ := OwnK.shape hown
      have HO := hide hown
      have HBr := hide hB
      clear hcell hrow g0 hx hacc hown hB own1 hb1
      go_wp2_with (at_builtin; go_must (refine wp_appI rfl _ _ rfl w.heap.size w.heap.size w _ _ _ acc l HO.out HR.out HBr.out (Nat.le_refl _) rfl rfl (by omega) hsz ?_); intro v2 w2 own2 hb2 _ _)
      go_roundw
      case rel => exact ⟨j + 1, by omega, by go_num, by rw [HF.out, ← List.append_assoc, ← HA.out]; exact own2, hb2⟩
      case measure => simp [intOf]; omega
    · have hd2 : decide ((j : Int) < (s.lv.length : Int)) = false := by simp; omega
      obtain rfl : j = s.lv.length := by omega
      rw [List.take_length] at hown
      clear own1
      go_wp2
      go_ret
      exact ⟨_, rfl, hown, hB⟩
end Go.Proofs.Ytlndbmenaaiogaa
