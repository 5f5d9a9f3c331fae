/- Several texts in one. -/
import Derived.Test.YtfjbdgkdkbcnhaaDoorCsplitAll
import Derived.Test.YtfjbdgkdkbcnhaaDoorTakePAll
/- What takeBits answers. -/
namespace Go.Proofs.YtfjbdgkdkbcnhaaDoor
open Go.RowKit
set_option linter.unusedVariables false
theorem RowK.part {kd : IntKind} {w : World} {bl off len cap : Nat} {l : List Int} (h : RowK kd w (.slice (some ⟨bl, off, none⟩) len cap) l) (b n : Nat) (hb : b + n ≤ l.length) (off' cap' : Nat) (ho : off' = off + b) (hc' : cap' = cap - b) :
    RowK kd w (.slice (some ⟨bl, off', none⟩) n cap') ((l.drop b).take n) := by
  obtain ⟨a, c, hv, ⟨h1, h2, h3⟩, hcase⟩ := h
  simp only [Value.slice.injEq] at hv
  obtain ⟨rfl, rfl, rfl⟩ := hv
  subst ho hc'
  have hl : ((l.drop b).take n).length = n := by simp; omega
  refine ⟨_, _, by rw [hl], ⟨by omega, by omega, fun h => by cases h⟩, ?_⟩
  rcases hcase with h | ⟨b', off', he, hlt, hc⟩
  · left; rw [h]; simp
  · simp at he
    obtain ⟨rfl, rfl⟩ := he
    refine .inr ⟨bl, off + b, rfl, hlt, fun j hj => ?_⟩
    rw [hl] at hj
    have g0 := hc (b + j) (by omega)
    have e : ((l.drop b).take n).getD j 0 = l.getD (b + j) 0 := by simp [List.getD_eq_getElem?_getD, hj]
    rw [e, ← g0]; congr 2; omega
theorem RowK.empty (kd : IntKind) (w : World) (a : Option Addr) (c : Nat) (hc : c ≤ 2 ^ 63 - 1) (hn : a = none → c = 0) : RowK kd w (.slice a 0 c) [] := ⟨a, c, rfl, ⟨by simp, hc, hn⟩, .inl rfl⟩
/-- What takeBits may answer. -/
def TakeAns (w : World) (b : List Int) (e : Ending) (w' : World) : Prop := Below w.heap.size w w' ∧
  ((∃ (x : List Int) (n : Nat) (r : List Int) (vx vr : Value), P.tkB b = some (x, n, r) ∧ RowB w vx x ∧ RowB w vr r ∧ e = .returned (.tuple #[.agg #[vx, .int .i64 n], vr, .int .i64 0])) ∨
   (P.tkB b = none ∧ ∃ c : Int, c ≠ 0 ∧ e = .returned (.tuple #[.agg #[.slice none 0 0, .int .i64 0], .slice none 0 0, .int .i64 c])))
theorem P.tkB_e {b : List Int} (h : (P.take b).2.2 ≠ 0) : P.tkB b = none := by unfold P.tkB; rw [if_neg fun h' => h h'.1]
theorem P.tkB_l {b : List Int} (h : ¬ (P.take b).1 ≤ 80000) : P.tkB b = none := by unfold P.tkB; rw [if_neg fun h' => h h'.2.1]
theorem P.tkB_s {b : List Int} (h : ¬ ((P.take b).1.toNat + 7) / 8 ≤ (b.drop (P.take b).2.1.toNat).length) : P.tkB b = none := by unfold P.tkB; rw [if_neg fun h' => h h'.2.2]
set_option maxRecDepth 100000 in
set_option maxHeartbeats 2000000 in
theorem takeBits_any (v : Value) (b : List Int) (w : World) (hr : RowB w v b) (hbt : Byt b) :
    Calls Tryd.prog 25 #[v] w fun e w' => TakeAns w b e w' := by
  have HT := hide (fun (w' : World) (h : Below w.heap.size w w') => take_any v b w' (hr.below h (Nat.le_refl _)) hbt)
  have hr0 := hr
  obtain ⟨a, cap, rfl, ⟨hlc, hmax, hnn⟩, hcase⟩ := hr
  unfold maxLen at hmax
  have hba := (Below.refl _ w).alloc (Nat.le_refl _) (.cells #[.slice none 0 0, .int .i64 0] 43)
  by_cases h0 : (P.take b).2.2 = 0
  · obtain ⟨u, k, hk1, hk2, e1, e2, e3, hu0, _, _⟩ := P.takeL_ok b 0 0 (by omega) hbt h0
    have f1 : (P.take b).1 = u := by unfold P.take; rw [e1]; simp
    have f2 : (P.take b).2.1 = k := by unfold P.take; rw [e2]; simp
    rcases hcase with h | ⟨p, o, rfl, hp, hc⟩
    · rw [h] at hk2; simp at hk2; omega
    clear hc
    by_cases h1 : u ≤ 80000
    · obtain ⟨n, hun⟩ : ∃ n : Nat, u = n := ⟨u.toNat, by omega⟩
      have hn : n ≤ 80000 := by omega
      rw [f1, f2, h0] at HT
      obtain ⟨nd, hnd⟩ : ∃ nd : Nat, (n + 7) / 8 = nd := ⟨_, rfl⟩
      have hl0 : decide ((80000 : Int) < u) = false := by rw [decide_eq_false_iff_not]; omega
      have hk0 : (0 : Int) ≤ (k : Int) := by omega
      have hkl : (k : Int) ≤ (b.length : Int) := by omega
      have hkc : k ≤ cap := by omega
      have hqd : (u + 7).tdiv 8 = (nd : Int) := by rw [Int.tdiv_eq_ediv_of_nonneg (by omega)]; omega
      have hqe : (u + 7) / 8 = (nd : Int) := by omega
      have hnd2 : nd ≤ 10001 := by omega
      have hcv : IntKind.i64.wrap u = u := by rw [IntKind.wrap_i64]; omega
      have hu1 : u ≤ 9223372036854775000 := by omega
      have HN := hide hn
      have HU := hide hun
      by_cases h2 : nd ≤ b.length - k
      · have HK : Hid (P.tkB b = some ((b.drop k).take nd, n, (b.drop k).drop nd)) := by
          show _ = _
          unfold P.tkB
          rw [f1, f2, hun]
          simp only [Int.toNat_natCast]
          rw [if_pos ⟨h0, by omega, by simp; omega⟩, hnd]
        clear e1 e2 e3 f1 f2 h0 hnd hn hun h1
        by_cases hck : cap = k
        · subst hck
          obtain rfl : nd = 0 := by omega
          have hdr : b.drop cap = [] := List.drop_of_length_le (by omega)
          rw [hdr] at HK
          clear hdr
          go_enter Tryd.func25, Tryd.ntmps25
          go_wp2_with (go_at_call 47; go_must (refine (HT.out _ hba).mono ?_); rintro e w1 ⟨rfl, rfl⟩)
          go_region
          all_goals go_wp2
          all_goals
            refine bodyPost_ret (v := .tuple #[.agg #[.slice (some ⟨p, o, none⟩) 0 0, .int .i64 u], .slice (some ⟨p, o, none⟩) 0 0, .int .i64 0]) (by simp [results, Tryd.results25, go_sem]) rfl ⟨((Below.refl _ _).alloc (Nat.le_refl _) _).drew, .inl ⟨[], n, [], .slice (some ⟨p, o, none⟩) 0 0, .slice (some ⟨p, o, none⟩) 0 0, HK.out, RowK.empty _ _ _ _ (by omega) (fun h => by cases h), RowK.empty _ _ _ _ (by omega) (fun h => by cases h), by rw [HU.out]⟩⟩
        · obtain ⟨L, hL⟩ : ∃ L, b.length - k = L := ⟨_, rfl⟩
          obtain ⟨C, hC⟩ : ∃ C, cap - k = C := ⟨_, rfl⟩
          have hrow := hr0.part k L (by omega) (o + k) C rfl hC.symm
          have hdl : (b.drop k).length = L := by simp; omega
          rw [List.take_of_length_le (by omega)] at hrow
          have hLC : L ≤ C := by omega
          have hnL : nd ≤ L := by omega
          have hnC : nd ≤ C := by omega
          have hLn : decide (L < nd) = false := by rw [decide_eq_false_iff_not]; omega
          have hLn2 : decide ((L : Int) < (nd : Int)) = false := by rw [decide_eq_false_iff_not]; omega
          have hC9 : C ≤ 2 ^ 63 - 1 := by omega
          have i0 : (0 : Int) ≤ (nd : Int) := by omega
          have i1 : (nd : Int) ≤ (L : Int) := by omega
          have i2 : (nd : Int) ≤ (C : Int) := by omega
          generalize b.drop k = r at *
          have HRow := hide hrow
          have HDL := hide hdl
          clear hrow hdl hr0 hbt
          have HX := hide (HRow.out.part 0 nd (by rw [HDL.out]; omega) (o + k) C (by omega) (by omega))
          rw [List.drop_zero] at HX
          by_cases hcn : C = nd
          · obtain rfl : nd = L := by omega
            subst hcn
            have hre : r.drop C = [] := List.drop_of_length_le (by rw [HDL.out]; omega)
            rw [hre] at HK
            clear hre
            go_enter Tryd.func25, Tryd.ntmps25
            go_wp2_with (go_at_call 47; go_must (refine (HT.out _ hba).mono ?_); rintro e w1 ⟨rfl, rfl⟩)
            go_region
            all_goals go_wp2
            all_goals
              refine bodyPost_ret (v := .tuple #[.agg #[.slice (some ⟨p, o + k, none⟩) C C, .int .i64 u], .slice (some ⟨p, o + k, none⟩) 0 0, .int .i64 0]) (by simp [results, Tryd.results25, go_sem]) rfl ⟨((Below.refl _ _).alloc (Nat.le_refl _) _).drew, .inl ⟨_, n, [], .slice (some ⟨p, o + k, none⟩) C C, .slice (some ⟨p, o + k, none⟩) 0 0, HK.out, HX.out, RowK.empty _ _ _ _ (by omega) (fun h => by cases h), by rw [HU.out]⟩⟩
          · have HY := hide (HRow.out.part nd (L - nd) (by rw [HDL.out]; omega) (o + k + nd) (C - nd) rfl rfl)
            rw [List.take_of_length_le (by rw [List.length_drop, HDL.out]; omega)] at HY
            go_enter Tryd.func25, Tryd.ntmps25
            go_wp2_with (go_at_call 47; go_must (refine (HT.out _ hba).mono ?_); rintro e w1 ⟨rfl, rfl⟩)
            go_region
            all_goals go_wp2
            all_goals
              refine bodyPost_ret (v := .tuple #[.agg #[.slice (some ⟨p, o + k, none⟩) nd C, .int .i64 u], .slice (some ⟨p, o + k + nd, none⟩) (L - nd) (C - nd), .int .i64 0]) (by simp [results, Tryd.results25, go_sem]) rfl ⟨((Below.refl _ _).alloc (Nat.le_refl _) _).drew, .inl ⟨_, n, _, _, _, HK.out, HX.out, HY.out, by rw [HU.out]⟩⟩
      · have HK : Hid (P.tkB b = none) := P.tkB_s (by rw [f1, f2, hun]; simp; omega)
        clear e1 e2 e3 f1 f2 h0 hnd hn hun h1
        by_cases hck : cap = k
        · subst hck
          have h0n : decide (0 < nd) = true := by rw [decide_eq_true_eq]; omega
          have h0n2 : (0 : Int) < (nd : Int) := by omega
          go_enter Tryd.func25, Tryd.ntmps25
          go_wp2_with (go_at_call 47; go_must (refine (HT.out _ hba).mono ?_); rintro e w1 ⟨rfl, rfl⟩)
          refine bodyPost_ret (v := .tuple #[.agg #[.slice none 0 0, .int .i64 0], .slice none 0 0, .int .i64 3]) (by simp [results, Tryd.results25, go_sem]) rfl ⟨hba, .inr ⟨HK.out, 3, by omega, rfl⟩⟩
        · obtain ⟨L, hL⟩ : ∃ L, b.length - k = L := ⟨_, rfl⟩
          have hLn : decide (L < nd) = true := by rw [decide_eq_true_eq]; omega
          have hLn2 : decide ((L : Int) < (nd : Int)) = true := by rw [decide_eq_true_eq]; omega
          go_enter Tryd.func25, Tryd.ntmps25
          go_wp2_with (go_at_call 47; go_must (refine (HT.out _ hba).mono ?_); rintro e w1 ⟨rfl, rfl⟩)
          refine bodyPost_ret (v := .tuple #[.agg #[.slice none 0 0, .int .i64 0], .slice none 0 0, .int .i64 3]) (by simp [results, Tryd.results25, go_sem]) rfl ⟨hba, .inr ⟨HK.out, 3, by omega, rfl⟩⟩
    · have HK : Hid (P.tkB b = none) := P.tkB_l (by rw [f1]; exact h1)
      rw [f1, f2, h0] at HT
      have ht : decide (80000 < u) = true := by simp; omega
      clear e1 e2 e3 f1 f2 h0
      go_enter Tryd.func25, Tryd.ntmps25
      go_wp2_with (go_at_call 47; go_must (refine (HT.out _ hba).mono ?_); rintro e w1 ⟨rfl, rfl⟩)
      refine bodyPost_ret (v := .tuple #[.agg #[.slice none 0 0, .int .i64 0], .slice none 0 0, .int .i64 2]) (by simp [results, Tryd.results25, go_sem]) rfl ⟨hba, .inr ⟨HK.out, 2, by omega, rfl⟩⟩
  · have HK : Hid (P.tkB b = none) := P.tkB_e h0
    generalize (P.take b).2.2 = c at *
    have ht : (c != 0) = true := by simpa using h0
    clear hcase
    go_enter Tryd.func25, Tryd.ntmps25
    go_wp2_with (go_at_call 47; go_must (refine (HT.out _ hba).mono ?_); rintro e w1 ⟨rfl, rfl⟩)
    refine bodyPost_ret (v := .tuple #[.agg #[.slice none 0 0, .int .i64 0], .slice none 0 0, .int .i64 c]) (by simp [results, Tryd.results25, go_sem]) rfl ⟨hba, .inr ⟨HK.out, c, h0, rfl⟩⟩
end Go.Proofs.YtfjbdgkdkbcnhaaDoor
/- What Open answers. -/
namespace Go.Proofs.YtfjbdgkdkbcnhaaDoor
open Go.RowKit
set_option linter.unusedVariables false
theorem unpT (v : Value) (x : List Int) (n : Nat) (w : World) (hr : RowB w v x) (hb : Byt x) (hn : n ≤ 80000) (hs : D.Shp w) :
    Calls Tryd.prog 26 #[.agg #[v, .int .i64 n]] w fun e w' => Below w.heap.size w w' ∧
      ((∃ (l : List Int) (a : Option Addr) (c : Nat), P.TB x n l ∧ (∀ m, P.TB x n m → m = l) ∧ OwnK 2 .i64 w' w.heap.size (.slice a l.length c) l ∧ e = .returned (.tuple #[.slice a l.length c, .int .i64 0])) ∨
       ((∀ m, ¬ P.TB x n m) ∧ e = .returned (.tuple #[.slice none 0 0, .int .i64 4]))) := by
  by_cases hok : P.OkB x n
  · obtain ⟨bs, hl, rfl⟩ := P.ok_pack x n hb hok
    have hl' : n = bs.length := by omega
    subst hl'
    have key : ∀ m, P.TB (P.pack bs) bs.length m → D.Isx bs m := fun m h => ⟨h.1, h.2.1, P.pack_inj h.2.2.2 h.2.2.1⟩
    refine (D.unpack_ok v bs w hr (by omega) hs).mono ?_
    rintro e w' ⟨hbl, ⟨l, a, c, hx, hu, ho, rfl⟩ | ⟨hno, rfl⟩⟩
    · exact ⟨hbl, .inl ⟨l, a, c, ⟨hx.1, hx.2.1, by rw [← hx.2.2], by rw [← hx.2.2]⟩, fun m h => hu m (key m h), ho, rfl⟩⟩
    · exact ⟨hbl, .inr ⟨fun m h => hno m (key m h), rfl⟩⟩
  · refine (D.unpack_bad v x n w hr hb (by omega) (by omega) hok).mono ?_
    rintro e w' ⟨hbl, rfl⟩
    exact ⟨hbl, .inr ⟨fun m h => hok (by rw [h.2.2.1, h.2.2.2]; exact P.pack_ok _), rfl⟩⟩
theorem unpM (v : Value) (x : List Int) (n : Nat) (w : World) (hr : RowB w v x) (hb : Byt x) (hn : n ≤ 80000) (ht : X.Tab w) :
    Calls Tryd.prog 27 #[.agg #[v, .int .i64 n]] w fun e w' => Below w.heap.size w w' ∧
      ((∃ (l : List Int) (a : Option Addr) (c : Nat), P.MB x n l ∧ (∀ m, P.MB x n m → m = l) ∧ OwnK 50 .u64 w' w.heap.size (.slice a l.length c) l ∧ e = .returned (.tuple #[.slice a l.length c, .int .i64 0])) ∨
       ((∀ m, ¬ P.MB x n m) ∧ e = .returned (.tuple #[.slice none 0 0, .int .i64 4]))) := by
  by_cases hok : P.OkB x n
  · obtain ⟨bs, hl, rfl⟩ := P.ok_pack x n hb hok
    have hl' : n = bs.length := by omega
    subst hl'
    have key : ∀ m, P.MB (P.pack bs) bs.length m → X.Isx bs m := fun m h => ⟨h.1, h.2.1, P.pack_inj h.2.2.2 h.2.2.1⟩
    refine (X.unpack_ok v bs w hr (by omega) ht).mono ?_
    rintro e w' ⟨hbl, ⟨l, a, c, hx, hu, ho, rfl⟩ | ⟨hno, rfl⟩⟩
    · exact ⟨hbl, .inl ⟨l, a, c, ⟨hx.1, hx.2.1, by rw [← hx.2.2], by rw [← hx.2.2]⟩, fun m h => hu m (key m h), ho, rfl⟩⟩
    · exact ⟨hbl, .inr ⟨fun m h => hno m (key m h), rfl⟩⟩
  · refine (X.unpack_bad v x n w hr hb (by omega) (by omega) hok).mono ?_
    rintro e w' ⟨hbl, rfl⟩
    exact ⟨hbl, .inr ⟨fun m h => hok (by rw [h.2.2.1, h.2.2.2]; exact P.pack_ok _), rfl⟩⟩
/-- What Open may answer. -/
def OpenAns (w : World) (b : List Int) (e : Ending) (w' : World) : Prop := Below w.heap.size w w' ∧
  ((∃ (l : List (Int × Int)) (v : Value), P.Sd b l ∧ (∀ l', P.Sd b l' → l' = l) ∧ OwnS w' w.heap.size v l ∧ e = .returned (.tuple #[v, .int .i64 0])) ∨
   ((∀ l, ¬ P.Sd b l) ∧ e = .returned (.tuple #[.slice none 0 0, .int .i64 4])))
namespace P
theorem no1 {b : List Int} (h : tkB b = none) : ∀ l, ¬ Sd b l := fun l hl => by
  obtain ⟨r, h1, _⟩ := hl.parts
  rw [h] at h1; cases h1
theorem no2 {b x r : List Int} {n : Nat} (h : tkB b = some (x, n, r)) (h2 : ∀ y k, tkB r ≠ some (y, k, [])) : ∀ l, ¬ Sd b l := fun l hl => by
  obtain ⟨r', h1, h3, _⟩ := hl.parts
  rw [h] at h1
  simp only [Option.some.injEq, Prod.mk.injEq] at h1
  obtain ⟨_, _, rfl⟩ := h1
  exact h2 _ _ h3
theorem yes {b x r y : List Int} {n k : Nat} (h : tkB b = some (x, n, r)) (h2 : tkB r = some (y, k, [])) {l : List (Int × Int)} (hl : Sd b l) : TB x n (tms l) ∧ MB y k (mss l) := by
  obtain ⟨r', h1, h3, h4, h5⟩ := hl.parts
  rw [h] at h1
  simp only [Option.some.injEq, Prod.mk.injEq] at h1
  obtain ⟨e1, e2, rfl⟩ := h1
  rw [h2] at h3
  simp only [Option.some.injEq, Prod.mk.injEq] at h3
  obtain ⟨e3, e4, _⟩ := h3
  rw [e1, e2, e3, e4]
  exact ⟨h4, h5⟩
theorem no3 {b x r y : List Int} {n k : Nat} (h : tkB b = some (x, n, r)) (h2 : tkB r = some (y, k, [])) {t m : List Int} (ht : ∀ t', TB x n t' → t' = t) (hm : ∀ m', MB y k m' → m' = m) (hbad : t.length ≠ m.length ∨ chk (jn t m) ≠ 0) : ∀ l, ¬ Sd b l := fun l hl => by
  obtain ⟨h4, h5⟩ := yes h h2 hl
  have e1 := ht _ h4
  have e2 := hm _ h5
  have e3 : (tms l).length = (mss l).length := by unfold tms mss; simp
  rcases hbad with hbad | hbad
  · exact hbad (by rw [← e1, ← e2, e3])
  · exact hbad (by rw [← e1, ← e2, jn_self hl.2.1]; exact hl.1)
theorem uniq {b x r y : List Int} {n k : Nat} (h : tkB b = some (x, n, r)) (h2 : tkB r = some (y, k, [])) {t m : List Int} (ht : ∀ t', TB x n t' → t' = t) (hm : ∀ m', MB y k m' → m' = m) : ∀ l, Sd b l → l = jn t m := fun l hl => by
  obtain ⟨h4, h5⟩ := yes h h2 hl
  rw [← ht _ h4, ← hm _ h5, jn_self hl.2.1]
end P
end Go.Proofs.YtfjbdgkdkbcnhaaDoor
/- What Open answers: the walk. -/
namespace Go.Proofs.YtfjbdgkdkbcnhaaDoor
open Go.RowKit
set_option linter.unusedVariables false
set_option maxRecDepth 100000 in
set_option maxHeartbeats 4000000 in
theorem open_any (v : Value) (b : List Int) (w : World) (hr : RowB w v b) (hbt : Byt b) (hs : D.Shp w) (ht : X.Tab w) :
    Calls Tryd.prog 12 #[v] w fun e w' => OpenAns w b e w' := by
  have HT := hide (takeBits_any v b w hr hbt)
  have HB := hide hbt
  clear hr hbt
  go_enter Tryd.func12, Tryd.ntmps12
  go_wp2_with fail
  refine HT.out.mono ?_
  rintro e w1 ⟨hb, ⟨x, n, r, vx, vr, hk, rx, rr, rfl⟩ | ⟨hk, c, hc, rfl⟩⟩
  · have HK := hide hk
    obtain ⟨e1, hn80, hxl⟩ := P.tkB_some HB.out hk
    have HXB : Hid (Byt x) := fun z hz => HB.out z (by rw [e1]; exact List.mem_append_right _ (List.mem_append_left _ hz))
    have HRB : Hid (Byt r) := fun z hz => HB.out z (by rw [e1]; exact List.mem_append_right _ (List.mem_append_right _ hz))
    have HN := hide hn80
    clear hk e1 hxl hn80 HT
    obtain ⟨ax, cx, hvx⟩ : ∃ a c, vx = .slice a x.length c := by obtain ⟨a, c, h, _⟩ := rx; exact ⟨a, c, h⟩
    rw [hvx] at rx ⊢
    clear hvx
    have HRx := hide (fun (w' : World) (h : Below w.heap.size w w') => RowK.below rx h (Nat.le_refl _))
    have HT2 := hide (fun (w' : World) (h : Below w.heap.size w w') => takeBits_any vr r w' (RowK.below rr h (Nat.le_refl _)) HRB.out)
    clear rx rr
    go_wp2_with fail
    have hba := below_alloc hb (.cells #[.slice ax x.length cx, .int .i64 n] 43)
    refine (HT2.out _ hba).mono ?_
    rintro e w2 ⟨hb2, ⟨y, k, r2, vy, vr2, hk2, ry, rr2, rfl⟩ | ⟨hk2, c, hc, rfl⟩⟩
    · have HK2 := hide hk2
      obtain ⟨e1, hn80, hyl⟩ := P.tkB_some HRB.out hk2
      have HYB : Hid (Byt y) := fun z hz => HRB.out z (by rw [e1]; exact List.mem_append_right _ (List.mem_append_left _ hz))
      have HN2 := hide hn80
      obtain ⟨ay, cy, hvy⟩ : ∃ a c, vy = .slice a y.length c := by obtain ⟨a, c, h, _⟩ := ry; exact ⟨a, c, h⟩
      obtain ⟨a2, c2, hv2⟩ : ∃ a c, vr2 = .slice a r2.length c := by obtain ⟨a, c, h, _⟩ := rr2; exact ⟨a, c, h⟩
      rw [hvy] at ry ⊢
      rw [hv2]
      obtain ⟨d0, d1, hb12, hsz2⟩ := box2 hb2
      have hbw := Below.next hb hb12
      have HRy := hide (fun (w' : World) (h : Below w2.heap.size w2 w') => RowK.below (RowK.below ry hb2 (Nat.le_refl _)) h (Nat.le_refl _))
      clear hk2 e1 hn80 hyl hvy hv2 rr2 ry HT2 hb2 hba hb12 hb
      by_cases hr2 : r2 = []
      · subst hr2
        have HD := hide (fun (w' : World) (h : Below w.heap.size w w') => unpT (.slice ax x.length cx) x n w' (HRx.out _ h) HXB.out HN.out (hs.next h))
        have HX := hide (fun (w' : World) (h : Below w.heap.size w w') (h2 : Below w2.heap.size w2 w') => unpM (.slice ay y.length cy) y k w' (HRy.out _ h2) HYB.out HN2.out (ht.next h))
        simp only [List.length_nil]
        go_wp2_with fail
        have hb2a : Below w2.heap.size w2 (w2.alloc (.cells #[.slice ay y.length cy, .int .i64 k] 43)) := (Below.refl _ _).alloc (Nat.le_refl _) _
        refine (HD.out _ (Below.next hbw hb2a)).mono ?_
        rintro e w3 ⟨hb3, ⟨t, at3, ct3, htb, htu, ot, rfl⟩ | ⟨hno, rfl⟩⟩
        · obtain ⟨d2, d3, hb23, hsz3⟩ := box2 hb3
          have HTB := hide htb
          have HTU := hide htu
          have hb3w := Below.next hbw hb23
          clear htb htu hb3 hb2a HD
          go_wp2_with fail
          refine (HX.out _ hb3w hb23).mono ?_
          rintro e w4 ⟨hb4, ⟨m, am, cm, hmb, hmu, om, rfl⟩ | ⟨hno, rfl⟩⟩
          · have HMB := hide hmb
            have HMU := hide hmu
            have ot4 := OwnK.below ot hb4 (Nat.le_refl _)
            have hb4w := Below.next hb3w hb4
            clear hmb hmu hb4 HX ot
            by_cases hlen : t.length = m.length
            · have htl : t.length ≤ 1000 := HTB.out.1
              have HJ := hide (join_any _ _ t m w4 ot4.row om.row hlen htl)
              have hne : ((t.length : Int) != (m.length : Int)) = false := by simp [hlen]
              have HLn := hide hlen
              clear hlen
              go_wp2_with fail
              refine HJ.out.mono ?_
              rintro e w5 ⟨vj, rfl, oj, hb5⟩
              have oj' := oj.base hb4w.size
              have hb5w := Below.next hb4w hb5
              have HC := hide (check_any vj (P.jn t m) w5 oj.row)
              clear oj hb5 HJ
              by_cases hchk : P.chk (P.jn t m) = 0
              · have HSd := hide (P.Sd.of HB.out HK.out HK2.out HTB.out HMB.out HLn.out hchk)
                rw [hchk] at HC
                clear hchk
                go_wp2_with fail
                refine HC.out.mono ?_
                rintro e w6 ⟨rfl, hb6⟩
                have oj6 := oj'.below hb6 (Nat.le_refl _)
                go_wp2
                go_ret2
                exact ⟨Below.next hb5w hb6, .inl ⟨_, _, HSd.out, P.uniq HK.out HK2.out HTU.out HMU.out, oj6, rfl⟩⟩
              · have HNo := hide (P.no3 HK.out HK2.out HTU.out HMU.out (.inr hchk))
                generalize P.chk (P.jn t m) = c5 at *
                have htc : (c5 != 0) = true := by simpa using hchk
                clear hchk
                go_wp2_with fail
                refine HC.out.mono ?_
                rintro e w6 ⟨rfl, hb6⟩
                go_wp2
                go_ret2
                exact ⟨Below.next hb5w hb6, .inr ⟨HNo.out, rfl⟩⟩
            · have HNo := hide (P.no3 HK.out HK2.out HTU.out HMU.out (.inl hlen))
              have hne : ((t.length : Int) != (m.length : Int)) = true := by rw [bne_iff_ne]; omega
              clear hlen
              go_wp2
              go_ret2
              exact ⟨hb4w, .inr ⟨HNo.out, rfl⟩⟩
          · have HNo : Hid (∀ l, ¬ P.Sd b l) := fun l hl => hno _ (P.yes HK.out HK2.out hl).2
            have hb4w := Below.next hb3w hb4
            clear hno hb4
            go_wp2
            go_ret2
            exact ⟨hb4w, .inr ⟨HNo.out, rfl⟩⟩
        · have HNo : Hid (∀ l, ¬ P.Sd b l) := fun l hl => hno _ (P.yes HK.out HK2.out hl).1
          have hb3w := Below.next (Below.next hbw hb2a) hb3
          clear hno hb3 hb2a
          go_wp2
          go_ret2
          exact ⟨hb3w, .inr ⟨HNo.out, rfl⟩⟩
      · have HNo := hide (P.no2 HK.out (fun y' k' h => by rw [HK2.out] at h; simp only [Option.some.injEq, Prod.mk.injEq] at h; exact hr2 h.2.2))
        have hl2 : (0 : Int) < (r2.length : Int) := by have := List.length_pos_iff.2 hr2; omega
        go_wp2
        go_ret2
        exact ⟨below_alloc hbw _, .inr ⟨HNo.out, rfl⟩⟩
    · have HNo := hide (P.no2 HK.out (fun y' k' h => by rw [hk2] at h; cases h))
      have htc : (c != 0) = true := by simpa using hc
      have hbw := Below.next hba hb2
      clear hc hb2
      go_wp2
      go_ret2
      exact ⟨below_alloc hbw _, .inr ⟨HNo.out, rfl⟩⟩
  · have HNo := hide (P.no1 hk)
    have htc : (c != 0) = true := by simpa using hc
    clear hc
    go_wp2
    go_ret2
    exact ⟨below_alloc hb _, .inr ⟨HNo.out, rfl⟩⟩
end Go.Proofs.YtfjbdgkdkbcnhaaDoor
