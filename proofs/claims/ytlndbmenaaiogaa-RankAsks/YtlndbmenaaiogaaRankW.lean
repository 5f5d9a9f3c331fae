/- sort.Search with the closures of package rank; notAbove, weight, Weight (written by wip/mkrw.py). -/
import Derived.Test.YtlndbmenaaiogaaRankH
namespace Go.Proofs.Ytlndbmenaaiogaa
open Go.RowKit
set_option linter.unusedVariables false
namespace P
theorem na_split {x : Int} {l : List Int} {k : Nat} (hk : k ≤ l.length) (h1 : ∀ j, j < k → l.getD j 0 ≤ x) (h2 : ∀ j, k ≤ j → j < l.length → x < l.getD j 0) : na x l = k := by
  have e : na x l = na x (l.take k) + na x (l.drop k) := by rw [← na_app, List.take_append_drop]
  have e1 : na x (l.take k) = (l.take k).length := na_all fun v hv => by
    obtain ⟨j, hj, rfl⟩ := List.mem_iff_getElem.1 hv
    have hj2 : j < k := by simp at hj; omega
    have := h1 j hj2
    simpa [List.getD_eq_getElem?_getD, List.getElem?_eq_getElem (show j < l.length by omega)] using this
  have e2 : na x (l.drop k) = 0 := na_none fun v hv => by
    obtain ⟨j, hj, rfl⟩ := List.mem_iff_getElem.1 hv
    have hj2 : k + j < l.length := by simp at hj; omega
    have := h2 (k + j) (by omega) hj2
    simpa [List.getD_eq_getElem?_getD, List.getElem?_eq_getElem hj2] using this
  rw [e, e1, e2, List.length_take]; omega
end P
theorem keep_row {k : IntKind} {w w' : World} {v : Value} {l : List Int} (h : RowK k w v l) (hb : Below w.heap.size w w') : RowK k w' v l := h.below hb (Nat.le_refl _)
set_option maxHeartbeats 1000000 in
/-- sort.Search with this closure. -/
theorem search_na (n : Nat) (b1 b2 : Nat) (p : Nat → Bool) (w : World) (hn : n ≤ 100000)
    (HF : Hid (∀ i : Nat, i < n → ∀ w', Below w.heap.size w w' → Calls Try.prog 58 #[.int .i64 i, .pointer (some ⟨b1, 0, none⟩), .pointer (some ⟨b2, 0, none⟩)] w' fun e w'' => e = .returned (.bool (p i)) ∧ Below w'.heap.size w' w''))
    (HM : Hid (∀ i j : Nat, i ≤ j → j < n → p i = true → p j = true)) :
    Calls Try.prog 43 #[.int .i64 n, .func (.func 58) #[] #[.pointer (some ⟨b1, 0, none⟩), .pointer (some ⟨b2, 0, none⟩)]] w fun e w' => ∃ k : Nat, k ≤ n ∧ e = .returned (.int .i64 k) ∧ (∀ j, j < k → p j = false) ∧ (∀ j, k ≤ j → j < n → p j = true) ∧ Below w.heap.size w w' := by
  go_enter Try.func43, Try.ntmps43
  go_wp2
  go_loopw [5, 6] (fun i j wr => ∃ (a b : Nat), a ≤ b ∧ b ≤ n ∧ i = .int .i64 a ∧ j = .int .i64 b ∧ (∀ k, k < a → p k = false) ∧ (∀ k, b ≤ k → k < n → p k = true) ∧ Below w.heap.size w wr) (fun i j _ => (intOf j).toNat - (intOf i).toNat)
  case atStart => exact ⟨0, n, by omega, Nat.le_refl _, rfl, rfl, fun k hk => by omega, fun k h1 h2 => by omega, Below.refl _ _⟩
  case round =>
    obtain ⟨a, b, hab, hb, rfl, rfl, hlo, hhi, hB⟩ := hrel
    have HLo := hide hlo
    have HHi := hide hhi
    clear hlo hhi
    by_cases hlt : a < b
    · obtain ⟨m, hm⟩ : ∃ m, m = (a + b) / 2 := ⟨_, rfl⟩
      have hm1 : a ≤ m := by omega
      have hm2 : m < b := by omega
      have em : ((a : Int) + (b : Int)) / 2 = (m : Int) := by omega
      have HC := hide (HF.out m (by omega) wr hB)
      have HB := hide hB
      clear hm hB
      cases hp : p m with
      | true =>
        rw [hp] at HC
        have HP := hide hp
        clear hp
        go_wp2_with (go_at_call 58; go_must (refine HC.out.mono ?_); rintro e w' ⟨rfl, hb2⟩)
        go_roundw
        case rel => exact ⟨a, m, hm1, by omega, rfl, rfl, HLo.out, fun k hk1 hk2 => HM.out m k hk1 hk2 HP.out, Below.next HB.out hb2⟩
        case measure => simp [intOf]; omega
      | false =>
        rw [hp] at HC
        have HP := hide hp
        clear hp
        go_wp2_with (go_at_call 58; go_must (refine HC.out.mono ?_); rintro e w' ⟨rfl, hb2⟩)
        go_roundw
        case rel =>
          refine ⟨m + 1, b, by omega, hb, by go_num, rfl, fun k hk => ?_, HHi.out, Below.next HB.out hb2⟩
          cases h : p k with
          | false => rfl
          | true => have := HM.out k m (by omega) (by omega) h; rw [HP.out] at this; cases this
        case measure => simp [intOf]; omega
    · have hd : decide ((a : Int) < (b : Int)) = false := by simp; omega
      go_wp2
      go_ret
      exact ⟨a, by omega, rfl, HLo.out, fun j h1 h2 => HHi.out j (by omega) h2, hB⟩
set_option maxHeartbeats 1000000 in
/-- sort.Search with this closure. -/
theorem search_q (n : Nat) (b1 b2 b3 : Nat) (p : Nat → Bool) (w : World) (hn : n ≤ 100000)
    (HF : Hid (∀ i : Nat, i < n → ∀ w', Below w.heap.size w w' → Calls Try.prog 44 #[.int .i64 i, .pointer (some ⟨b1, 0, none⟩), .pointer (some ⟨b2, 0, none⟩), .pointer (some ⟨b3, 0, none⟩)] w' fun e w'' => e = .returned (.bool (p i)) ∧ Below w'.heap.size w' w''))
    (HM : Hid (∀ i j : Nat, i ≤ j → j < n → p i = true → p j = true)) :
    Calls Try.prog 43 #[.int .i64 n, .func (.func 44) #[] #[.pointer (some ⟨b1, 0, none⟩), .pointer (some ⟨b2, 0, none⟩), .pointer (some ⟨b3, 0, none⟩)]] w fun e w' => ∃ k : Nat, k ≤ n ∧ e = .returned (.int .i64 k) ∧ (∀ j, j < k → p j = false) ∧ (∀ j, k ≤ j → j < n → p j = true) ∧ Below w.heap.size w w' := by
  go_enter Try.func43, Try.ntmps43
  go_wp2
  go_loopw [5, 6] (fun i j wr => ∃ (a b : Nat), a ≤ b ∧ b ≤ n ∧ i = .int .i64 a ∧ j = .int .i64 b ∧ (∀ k, k < a → p k = false) ∧ (∀ k, b ≤ k → k < n → p k = true) ∧ Below w.heap.size w wr) (fun i j _ => (intOf j).toNat - (intOf i).toNat)
  case atStart => exact ⟨0, n, by omega, Nat.le_refl _, rfl, rfl, fun k hk => by omega, fun k h1 h2 => by omega, Below.refl _ _⟩
  case round =>
    obtain ⟨a, b, hab, hb, rfl, rfl, hlo, hhi, hB⟩ := hrel
    have HLo := hide hlo
    have HHi := hide hhi
    clear hlo hhi
    by_cases hlt : a < b
    · obtain ⟨m, hm⟩ : ∃ m, m = (a + b) / 2 := ⟨_, rfl⟩
      have hm1 : a ≤ m := by omega
      have hm2 : m < b := by omega
      have em : ((a : Int) + (b : Int)) / 2 = (m : Int) := by omega
      have HC := hide (HF.out m (by omega) wr hB)
      have HB := hide hB
      clear hm hB
      cases hp : p m with
      | true =>
        rw [hp] at HC
        have HP := hide hp
        clear hp
        go_wp2_with (go_at_call 44; go_must (refine HC.out.mono ?_); rintro e w' ⟨rfl, hb2⟩)
        go_roundw
        case rel => exact ⟨a, m, hm1, by omega, rfl, rfl, HLo.out, fun k hk1 hk2 => HM.out m k hk1 hk2 HP.out, Below.next HB.out hb2⟩
        case measure => simp [intOf]; omega
      | false =>
        rw [hp] at HC
        have HP := hide hp
        clear hp
        go_wp2_with (go_at_call 44; go_must (refine HC.out.mono ?_); rintro e w' ⟨rfl, hb2⟩)
        go_roundw
        case rel =>
          refine ⟨m + 1, b, by omega, hb, by go_num, rfl, fun k hk => ?_, HHi.out, Below.next HB.out hb2⟩
          cases h : p k with
          | false => rfl
          | true => have := HM.out k m (by omega) (by omega) h; rw [HP.out] at this; cases this
        case measure => simp [intOf]; omega
    · have hd : decide ((a : Int) < (b : Int)) = false := by simp; omega
      go_wp2
      go_ret
      exact ⟨a, by omega, rfl, HLo.out, fun j h1 h2 => HHi.out j (by omega) h2, hB⟩

/-- The closure of notAbove. -/
theorem above1 (v : Value) (l : List Int) (x : Int) (i b1 b2 : Nat) (w : World) (hr : RowK .i64 w v l) (hi : i < l.length) (h1 : w.cell? ⟨b1, 0, none⟩ = some v) (h2 : w.cell? ⟨b2, 0, none⟩ = some (.int .i64 x)) :
    Calls Try.prog 58 #[.int .i64 i, .pointer (some ⟨b1, 0, none⟩), .pointer (some ⟨b2, 0, none⟩)] w fun e w' => e = .returned (.bool (decide (x < l.getD i 0))) ∧ Below w.heap.size w w' := by
  obtain ⟨a, cap, rfl, ⟨hlc, hmax, hnn⟩, hcase⟩ := hr
  unfold maxLen at hmax
  rcases hcase with h | ⟨b, off, rfl, hbs, hcell⟩
  · rw [h] at hi; simp at hi
  have g := hcell i hi
  clear hcell
  generalize l.getD i 0 = y at *
  have j0 : (0 : Int) ≤ (i : Int) := by omega
  have j1 : (i : Int) < (l.length : Int) := by omega
  go_enter Try.func58, Try.ntmps58
  go_wp2
  go_quiet (fail)
  go_wp2
  go_ret
  exact ⟨rfl, below_dn (Below.refl _ _) _⟩
theorem notAbove_any (v : Value) (l : List Int) (x : Int) (w : World) (hr : RowK .i64 w v l) (hs : P.Inc l) (hn : l.length ≤ 100000) :
    Calls Try.prog 50 #[v, .int .i64 x] w fun e w' => e = .returned (.int .i64 (P.na x l : Nat)) ∧ Below w.heap.size w w' := by
  have HF := hide (fun (b1 b2 : Nat) (w0 : World) (hr0 : RowK .i64 w0 v l) (h1 : w0.cell? ⟨b1, 0, none⟩ = some v) (h2 : w0.cell? ⟨b2, 0, none⟩ = some (.int .i64 x)) =>
    search_na l.length b1 b2 (fun i => decide (x < l.getD i 0)) w0 hn
      (fun i hi w' hb => above1 v l x i b1 b2 w' (keep_row hr0 hb) hi (keep_cell h1 hb) (keep_cell h2 hb))
      (fun i j hij hj hp => by
        rcases Nat.lt_or_ge i j with h | h
        · have := P.inc_at hs h hj
          simp only [decide_eq_true_eq] at hp ⊢; omega
        · obtain rfl : i = j := by omega
          exact hp))
  have hr0 := hr
  obtain ⟨a, cap, rfl, ⟨hlc, hmax, hnn⟩, hcase⟩ := hr
  unfold maxLen at hmax
  clear hcase
  have hB : Hid (Below w.heap.size w ((w.alloc (.cells #[.slice a l.length cap] 22)).alloc (.cells #[.int .i64 x] 2))) := ((Below.refl _ w).alloc (Nat.le_refl _) _).alloc (by simp) _
  go_enter Try.func50, Try.ntmps50
  go_wp2_with (go_at_call 43; go_must (refine (HF.out _ _ _ (hr0.below hB.out (Nat.le_refl _)) ?_ ?_).mono ?_))
  · simp
  · simp
  rintro e w' ⟨k, hk, rfl, h1, h2, hb⟩
  go_wp2
  go_ret
  refine ⟨ret_int ?_, Below.next hB.out hb⟩
  rw [P.na_split hk (fun j hj => by have := h1 j hj; simp only [decide_eq_false_iff_not] at this; omega) (fun j hj hj2 => by have := h2 j hj hj2; simpa using this)]
set_option maxHeartbeats 1000000 in
theorem weight_any (tv lv : Value) (s : P.Rk) (x : Int) (w : World) (hr : RkV w tv lv s) (hg : P.Good s) :
    Calls Try.prog 40 #[aggR tv lv s, .int .i64 x] w fun e w' => e = .returned (.int .i64 (P.wtR x s : Nat)) ∧ Below w.heap.size w w' := by
  have h20 := hg.2.1
  have ht : s.tail.length ≤ 64 := by have := hg.1.room; have := hg.1.k64; omega
  have hl : ∀ l ∈ s.lv, P.Inc l ∧ l.length ≤ 64 := fun l hm => by have := hg.1.lv l hm; have := hg.1.k64; exact ⟨(hg.1.lv l hm).1, by omega⟩
  have hti := hg.1.inc
  have HNt := hide (fun wx (hb : Below w.heap.size w wx) => notAbove_any tv s.tail x wx (hr.tail.below hb (Nat.le_refl _)) hti (by omega))
  have HNA := hide (fun (wx : World) v (l : List Int) (h1 : RowK .i64 wx v l) (h2 : P.Inc l) (h3 : l.length ≤ 100000) => notAbove_any v l x wx h1 h2 h3)
  obtain ⟨al, cl, rfl, ⟨hlc, hmax⟩, hcase⟩ := hr.lv
  unfold maxLen at hmax
  have hwt : P.wtR x s = P.na x s.tail + P.wt x s.lv := rfl
  rw [hwt]
  have hna := P.na_le x s.tail
  clear hg hr hti hwt
  obtain ⟨k, t, L, n, sl⟩ := s
  simp only at *
  have HW := hide (fun n lev w hn hl => weigh_any n lev w hn hl)
  have HB := hide ((Below.refl _ w).alloc (Nat.le_refl _) (.cells #[.int .i64 k, tv, .slice al L.length cl, .int .i64 n, .int .i64 sl] 25))
  obtain ⟨b0, b1, b2, b3, b4⟩ := box5 (w := w) (c0 := .int .i64 k) (c1 := tv) (c2 := .slice al L.length cl) (c3 := .int .i64 n) (c4 := .int .i64 sl) (t := 25)
  have HC : Hid (∀ j, P.wt x (L.take j) ≤ 67108864) := fun j => by
    have h1 := P.wt_le x (L.take j)
    have h2 := P.cnt_take_le L j
    have h3 : P.cnt L + 64 ≤ 2 ^ L.length * 64 := P.cnt_max fun l hm => (hl l hm).2
    have h4 : 2 ^ L.length ≤ 2 ^ 20 := Nat.pow_le_pow_right (by omega) h20
    omega
  have HLl := hide hl
  clear hl
  generalize hnt : P.na x t = nt at *
  clear hnt
  have hB0 : Hid (w.heap.size ≤ (w.alloc (.cells #[.int .i64 k, tv, .slice al L.length cl, .int .i64 n, .int .i64 sl] 25)).heap.size) := by show _ ≤ _; simp
  go_enter Try.func40, Try.ntmps40
  go_wp2_with (go_at_call 50; go_must (refine (HNt.out _ HB.out).mono ?_); rintro e w1 ⟨rfl, hb1⟩; have HB1 := hide (Below.next HB.out hb1); have d2 := keep_cell b2 hb1; clear hb1)
  clear HNt
  go_loopw [15, 5] (fun i c wr => ∃ (j : Nat), j ≤ L.length ∧ i = .int .i64 j ∧ c = .int .i64 ((nt + P.wt x (L.take j) : Nat) : Int) ∧ Below w.heap.size w wr) (fun i _ _ => L.length - (intOf i).toNat)
  case atStart => exact ⟨0, by omega, rfl, by simp [P.wt], HB1.out⟩
  case round =>
    obtain ⟨j, hj, rfl, rfl, hB⟩ := hrel
    by_cases hlt : j < L.length
    · rcases hcase with h | ⟨b, off, rfl, hbs, hcell⟩
      · rw [h] at hlt; simp at hlt
      have j0 : (0 : Int) ≤ (j : Int) := by omega
      have j1 : (j : Int) < (L.length : Int) := by omega
      obtain ⟨l, hx⟩ : ∃ y, L[j]? = some y := ⟨_, List.getElem?_eq_getElem hlt⟩
      obtain ⟨vj, g0, hrow⟩ := hcell j l hx
      have g1 := (hB.cell (p := ⟨b, off + j, none⟩) hbs).trans g0
      have hrow1 := hrow.below hB (Nat.le_refl _)
      obtain ⟨hli, hl64⟩ := HLl.out l (List.mem_of_getElem? hx)
      have hna2 := P.na_le x l
      have HI := hide (fun w => HW.out (P.na x l) j w (by omega) (by omega))
      have HNj := hide (HNA.out wr vj l hrow1 hli (by omega))
      have HN := hide (P.wt_take hx x)
      have c0 := HC.out j
      have c1 := HC.out (j + 1)
      have hm : P.na x l * 2 ^ j ≤ 67108864 := by have := HN.out; rw [Nat.mul_comm]; omega
      have HBr := hide hB
      clear hcell hrow hrow1 g0 hx hB hli
      generalize P.na x l = u at *
      generalize hz : u * 2 ^ j = z at HI hm
      have HZ := hide hz
      clear hz
      have hs1 : (((nt + P.wt x (L.take j) : Nat) : Int)) + (z : Int) ≤ 9223372036854775807 := by omega
      have hs0 : (0 : Int) ≤ (((nt + P.wt x (L.take j) : Nat) : Int)) + (z : Int) := by omega
      generalize hacc : nt + P.wt x (L.take j) = acc at *
      have HA := hide hacc
      clear hacc
      go_wp2_with (first
        | (go_at_call 39; go_must (refine (HI.out _).mono ?_); rintro e w' ⟨rfl, rfl⟩)
        | (go_at_call 50; go_must (refine HNj.out.mono ?_); rintro e w2 ⟨rfl, hb2⟩))
      go_roundw
      case rel => exact ⟨j + 1, by omega, by go_num, by rw [HN.out, ← Nat.add_assoc, HA.out, Nat.mul_comm, HZ.out]; push_cast; rfl, Below.next HBr.out hb2⟩
      case measure => simp [intOf]; omega
    · have hd2 : decide ((j : Int) < (L.length : Int)) = false := by simp; omega
      obtain rfl : j = L.length := by omega
      rw [List.take_length]
      generalize hacc : nt + P.wt x L = acc
      have HA := hide hacc
      clear hacc
      go_wp2
      go_ret
      exact ⟨ret_int (by have := HA.out; omega), hB⟩
theorem Weight_bad (tv lv : Value) (s : P.Rk) (x : Int) (w : World) (hr : RkV w tv lv s) (hg : ¬ P.Good s) :
    Calls Try.prog 18 #[aggR tv lv s, .int .i64 x] w fun e w' => e = .returned (.tuple #[.int .i64 0, .int .i64 4]) ∧ Below w.heap.size w w' := by
  have HK := hide (fun wx (hb : Below w.heap.size w wx) => check_any tv lv s wx (hr.below hb (Nat.le_refl _)))
  rw [P.chkR_not hg] at HK
  have HB := hide ((Below.refl _ w).alloc (Nat.le_refl _) (.cells #[.int .i64 s.k, tv, lv, .int .i64 s.n, .int .i64 s.sl] 25))
  clear hr hg
  go_enter Try.func18, Try.ntmps18
  go_wp2_with (go_at_call 13; go_must (refine (HK.out _ HB.out).mono ?_); rintro e w1 ⟨rfl, hb1⟩; have HB1 := hide (Below.next HB.out hb1); clear hb1)
  go_ret2
  exact ⟨rfl, HB1.out⟩
theorem Weight_ok (tv lv : Value) (s : P.Rk) (x : Int) (w : World) (hr : RkV w tv lv s) (hg : P.Good s) :
    Calls Try.prog 18 #[aggR tv lv s, .int .i64 x] w fun e w' => e = .returned (.tuple #[.int .i64 (P.wtR x s : Nat), .int .i64 0]) ∧ Below w.heap.size w w' := by
  have HK := hide (fun wx (hb : Below w.heap.size w wx) => check_any tv lv s wx (hr.below hb (Nat.le_refl _)))
  rw [P.chkR_ok hg] at HK
  have HW := hide (fun wx (hb : Below w.heap.size w wx) => weight_any tv lv s x wx (hr.below hb (Nat.le_refl _)) hg)
  have HB := hide ((Below.refl _ w).alloc (Nat.le_refl _) (.cells #[.int .i64 s.k, tv, lv, .int .i64 s.n, .int .i64 s.sl] 25))
  obtain ⟨b0, b1, b2, b3, b4⟩ := box5 (w := w) (c0 := .int .i64 s.k) (c1 := tv) (c2 := lv) (c3 := .int .i64 s.n) (c4 := .int .i64 s.sl) (t := 25)
  clear hr hg
  generalize P.wtR x s = r at *
  go_enter Try.func18, Try.ntmps18
  go_wp2_with (first
    | (go_at_call 13; go_must (refine (HK.out _ HB.out).mono ?_); rintro e w1 ⟨rfl, hb1⟩; have HB1 := hide (Below.next HB.out hb1); have d0 := keep_cell b0 hb1; have d1 := keep_cell b1 hb1; have d2 := keep_cell b2 hb1; have d3 := keep_cell b3 hb1; have d4 := keep_cell b4 hb1; clear hb1)
    | (go_at_call 40; go_must (refine (HW.out _ HB1.out).mono ?_); rintro e w2 ⟨rfl, hb2⟩; have HB2 := hide (Below.next HB1.out hb2); clear hb2))
  go_ret2
  exact ⟨rfl, HB2.out⟩
end Go.Proofs.Ytlndbmenaaiogaa
