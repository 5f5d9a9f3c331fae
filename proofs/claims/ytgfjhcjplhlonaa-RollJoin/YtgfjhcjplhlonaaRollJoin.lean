/- RollJoin holds: at all samples, places and widths the law answers true and changes nothing that was there. -/
import Derived.Test.YtgfjhcjplhlonaaEqW
import Derived.Test.YtgfjhcjplhlonaaRlive
import Derived.Test.YtgfjhcjplhlonaaGood
import Derived.Test.YtgfjhcjplhlonaaRollN
import Derived.Test.YtgfjhcjplhlonaaRollQ
namespace Go.Proofs.Ytgfjhcjplhlonaa
open Go.ChangeShapes Go.WideShapes Go.ChangeAt Go.RowKit
set_option linter.unusedVariables false
namespace P
theorem cut_ok {l : List (Int × Int)} {w : Int} (h : roerr l w = 0) (k : Nat) :
    roerr (l.take k) w = 0 ∧ roerr (l.drop k) w = 0 ∧ jerr (roout (l.take k) w) (roout (l.drop k) w) = 0 ∧ jout (roout (l.take k) w) (roout (l.drop k) w) = roout l w := by
  obtain ⟨hc, h1, h2, hf, ho⟩ := roerr_zero h
  obtain ⟨hl, hr⟩ := chk_zero hc
  have r1 : Ris (l.take k) := hr.sublist (List.take_sublist k l)
  have r2 : Ris (l.drop k) := hr.sublist (List.drop_sublist k l)
  have l1 : (l.take k).length ≤ 1000 := by simp; omega
  have l2 : (l.drop k).length ≤ 1000 := by simp; omega
  have c1 := chk_ok l1 r1
  have c2 := chk_ok l2 r2
  have sub : ∀ m : List (Int × Int), (∀ x ∈ m, x ∈ l) → far (ones m) = false := by
    intro m hm
    unfold far at hf ⊢
    rw [List.any_eq_false] at hf ⊢
    intro x hx
    obtain ⟨s, hs, rfl⟩ := List.mem_map.1 hx
    exact hf _ (List.mem_map.2 ⟨s, hm s hs, rfl⟩)
  have e1 : roerr (l.take k) w = 0 := by rw [roerr_eq c1, rerr_ones c1 h1 h2, sub _ fun x hx => List.mem_of_mem_take hx]; simp
  have e2 : roerr (l.drop k) w = 0 := by rw [roerr_eq c2, rerr_ones c2 h1 h2, sub _ fun x hx => List.mem_of_mem_drop hx]; simp
  have o1 := (roerr_zero e1).2.2.2.2
  have o2 := (roerr_zero e2).2.2.2.2
  have g1 := roll_chk h1 l1 r1
  have g2 := roll_chk h1 l2 r2
  have hpw : ∀ x ∈ l.take k, ∀ y ∈ l.drop k, x.1 < y.1 := by
    have := hr
    rw [← List.take_append_drop k l] at this
    exact (List.pairwise_append.1 this).2.2
  have hj : jn (grp (beg w) (ones (l.take k))) (grp (beg w) (ones (l.drop k))) = grp (beg w) (ones l) := by
    rw [jn_cat (grp_ris (beg_mono h1) (ones_ris r1).wk) (grp_ris (beg_mono h1) (ones_ris r2).wk), ← grp_append]
    · congr 1
      rw [ones, ones, ← List.map_append, List.take_append_drop]; rfl
    · intro x hx y hy
      obtain ⟨p, hp, ep⟩ := grp_mem_t hx
      obtain ⟨q, hq, eq⟩ := grp_mem_t hy
      obtain ⟨p', hp', rfl⟩ := List.mem_map.1 hp
      obtain ⟨q', hq', rfl⟩ := List.mem_map.1 hq
      rw [← ep, ← eq]
      exact beg_mono h1 _ _ (Int.le_of_lt (hpw p' hp' q' hq'))
  rw [o1, o2, ho]
  have j4 := jerr_4 g1 g2 (by rw [hj]; have := grp_length (beg w) (ones l); rw [ones_length] at this; omega) (by rw [hj]; exact crowd_ones _ hl)
  rw [hj] at j4
  exact ⟨e1, e2, j4.1, j4.2⟩
end P
theorem rowS_nil' (w : World) (a : Option Addr) (c : Nat) (hc : c ≤ 2 ^ 63 - 1) (hn : a = none → c = 0) : RowS w (.slice a 0 c) [] := ⟨a, c, rfl, ⟨by simp, hc, hn⟩, .inl rfl⟩
theorem rowS_nilN (w : World) (a : Option Addr) (n c : Nat) (h0 : n = 0) (hc : c ≤ 2 ^ 63 - 1) (hn : a = none → c = 0) : RowS w (.slice a n c) [] := by subst h0; exact rowS_nil' w a c hc hn
theorem joinA (v : Value) (l : List (Int × Int)) (k wd : Int) (w : World) (hr : RowS w v l) (h : k < 0 ∨ (l.length : Int) < k) :
    Calls Try.prog 5 #[v, .int .i64 k, .int .i64 wd] w fun e w' => e = .returned (.bool true) ∧ Below w.heap.size w w' := by
  have HL := hide (rolls_any w)
  obtain ⟨a, cap, rfl⟩ := hr.shp
  clear hr
  by_cases h1 : k < 0
  · clear h
    go_enter Try.func5, Try.ntmps5
    go_wp2_with (go_at_call 14; go_must (refine HL.out.mono ?_); rintro e w1 ⟨rfl, hb⟩)
    go_ret
    exact ⟨rfl, hb⟩
  · have h2 : (l.length : Int) < k := by omega
    have d1 : decide (k < 0) = false := by simpa using h1
    clear h
    go_enter Try.func5, Try.ntmps5
    go_wp2_with (go_at_call 14; go_must (refine HL.out.mono ?_); rintro e w1 ⟨rfl, hb⟩)
    go_ret
    exact ⟨rfl, hb⟩
theorem joinB (v : Value) (l : List (Int × Int)) (k wd : Int) (w : World) (hr : RowS w v l) (h1 : 0 ≤ k) (h2 : k ≤ l.length) (hc : P.roerr l wd ≠ 0) :
    Calls Try.prog 5 #[v, .int .i64 k, .int .i64 wd] w fun e w' => e = .returned (.bool true) ∧ Below w.heap.size w w' := by
  have HL := hide (rolls_any w)
  have HA := hide (fun (w' : World) (hb : Below w.heap.size w w') => roll_any v l wd w' (hr.below hb (Nat.le_refl _)))
  have o1 : P.roout l wd = [] := by unfold P.roout; rw [if_neg hc]
  rw [o1] at HA
  obtain ⟨a, cap, rfl⟩ := hr.shp
  clear hr o1
  generalize P.roerr l wd = c at *
  have t1 : (c != 0) = true := by simpa using hc
  have d1 : decide (k < 0) = false := by simp; omega
  have d2 : decide ((l.length : Int) < k) = false := by simp; omega
  clear hc
  go_enter Try.func5, Try.ntmps5
  go_wp2_with (go_at_call 14; go_must (refine HL.out.mono ?_); rintro e w1 ⟨rfl, hb⟩)
  refine (HA.out _ hb).mono ?_
  rintro e w2 ⟨va, rfl, owna, hb2⟩
  obtain ⟨aa, ca, hva⟩ := OwnW.shp owna
  rw [hva]
  replace hb := Below.next hb hb2
  clear hva owna hb2
  go_wp2_with fail
  go_ret
  exact ⟨rfl, hb⟩
/-- Three errors, none of them one, in a new row. -/
theorem row_three_zeros (w : World) (t : TypeId) : RowK .i64 (w.alloc (.cells #[.int .i64 0, .int .i64 0, .int .i64 0] t)) (.slice (some ⟨w.heap.size, 0, none⟩) 3 3) (List.replicate 3 0) := by
  refine ⟨_, 3, rfl, ⟨by simp, by decide, fun h => by cases h⟩, .inr ⟨w.heap.size, 0, rfl, by simp, fun j hj => ?_⟩⟩
  match j, hj with
  | 0, _ => simp
  | 1, _ => simp
  | 2, _ => simp
/-- What the law does behind its slicings, whatever they are. -/
def JRest (w : World) (A B C : List P.Wn) (e1 e2 : Int) (t d : List (Int × Int)) (wd : Int) : Prop :=
  (∀ v' w', RowS w' v' t → Calls Try.prog 9 #[v', .int .i64 wd] w' (WPost w' 0 B)) ∧ (∀ v' w', RowS w' v' d → Calls Try.prog 9 #[v', .int .i64 wd] w' (WPost w' 0 C)) ∧ (∀ v1 v2 w', RowW w' v1 B → RowW w' v2 C → Calls Try.prog 18 #[v1, v2] w' (WPost w' 0 A))
theorem jrest {l : List (Int × Int)} {wd : Int} (h : P.roerr l wd = 0) (k : Nat) (w : World) : JRest w (P.roout l wd) (P.roout (l.take k) wd) (P.roout (l.drop k) wd) 0 0 (l.take k) (l.drop k) wd := by
  obtain ⟨h1, h2, h3, h4⟩ := P.cut_ok h k
  refine ⟨fun v' w' hr => ?_, fun v' w' hr => ?_, fun v1 v2 w' r1 r2 => ?_⟩
  · have := roll_any v' (l.take k) wd w' hr
    rwa [h1] at this
  · have := roll_any v' (l.drop k) wd w' hr
    rwa [h2] at this
  · have := join_any v1 v2 _ _ w' r1 r2
    rwa [h3, h4] at this
set_option maxHeartbeats 2000000 in
theorem joinC (v : Value) (l : List (Int × Int)) (k : Nat) (wd : Int) (w : World) (hr : RowS w v l) (h2 : k ≤ l.length) (hc : P.roerr l wd = 0) :
    Calls Try.prog 5 #[v, .int .i64 k, .int .i64 wd] w fun e w' => e = .returned (.bool true) ∧ Below w.heap.size w w' := by
  have HL := hide (rolls_any w)
  have HA := hide (fun (w' : World) (hb : Below w.heap.size w w') => roll_any v l wd w' (hr.below hb (Nat.le_refl _)))
  rw [hc] at HA
  have HJ := hide (jrest hc k w)
  have k0 : (0 : Int) ≤ (k : Int) := by omega
  have d1 : decide ((k : Int) < 0) = false := by simp
  have d2 : decide ((l.length : Int) < (k : Int)) = false := by simp; omega
  have HR := hide (fun (w' : World) (hb : Below w.heap.size w w') => hr.below hb (Nat.le_refl _))
  obtain ⟨x, cap, rfl, ⟨hlc, hmax, hnn⟩, hcase⟩ := hr
  unfold maxLen at hmax
  generalize P.roout l wd = A at *
  generalize P.roout (l.take k) wd = B at *
  generalize P.roout (l.drop k) wd = C at *
  rcases hcase with hl0 | ⟨b, off, rfl, hbs, hcell⟩
  · subst hl0
    obtain rfl : k = 0 := by simpa using h2
    cases x with
    | none =>
      obtain rfl : cap = 0 := hnn rfl
      go_enter Try.func5, Try.ntmps5
      go_wp2_with (go_at_call 14; go_must (refine HL.out.mono ?_); rintro e w1 ⟨rfl, hb⟩)
      refine (HA.out _ hb).mono ?_
      rintro e w2 ⟨va, rfl, owna, hb2⟩
      obtain ⟨aa, ca, hva⟩ := OwnW.shp owna
      rw [hva] at owna ⊢
      replace owna := OwnX.base owna hb.size
      replace hb := Below.next hb hb2
      clear hva hb2
      go_wp2_with fail
      refine (HJ.out.1 _ _ (RowS.nil _)).mono ?_
      rintro e w3 ⟨vb, rfl, ownb, hb3⟩
      obtain ⟨ab, cb, hvb⟩ := OwnW.shp ownb
      rw [hvb] at ownb ⊢
      replace owna := OwnX.below owna hb3 (Nat.le_refl _)
      replace hb := Below.next hb hb3
      clear hvb hb3
      go_wp2_with fail
      refine (HJ.out.2.1 _ _ (RowS.nil _)).mono ?_
      rintro e w4 ⟨vc, rfl, ownc, hb4⟩
      obtain ⟨ac, cc, hvc⟩ := OwnW.shp ownc
      rw [hvc] at ownc ⊢
      replace owna := OwnX.below owna hb4 (Nat.le_refl _)
      replace ownb := OwnX.below ownb hb4 (Nat.le_refl _)
      replace hb := Below.next hb hb4
      clear hvc hb4
      go_wp2_with fail
      refine (HJ.out.2.2 _ _ _ (OwnW.row ownb) (OwnW.row ownc)).mono ?_
      rintro e w5 ⟨vd, rfl, ownd, hb5⟩
      obtain ⟨ad, cd, hvd⟩ := OwnW.shp ownd
      rw [hvd] at ownd ⊢
      replace owna := OwnX.below owna hb5 (Nat.le_refl _)
      replace hb := Below.next hb hb5
      clear hvd hb5 ownb ownc
      go_wp2_with (first
        | (go_at_call 16; go_must (refine (good_zeros _ 3 _ (row_three_zeros _ _)).mono ?_); rintro e w6 ⟨rfl, rfl⟩; replace owna := OwnX.below owna (bel_a _ (.cells #[.int .i64 0, .int .i64 0, .int .i64 0] 24)) (Nat.le_refl _); replace ownd := OwnX.below ownd (bel_a _ (.cells #[.int .i64 0, .int .i64 0, .int .i64 0] 24)) (Nat.le_refl _); replace hb := below_alloc hb (.cells #[.int .i64 0, .int .i64 0, .int .i64 0] 24))
        | (go_at_call 17; go_must (refine (equalW_self _ _ A _ (OwnW.row owna) (OwnW.row ownd)).mono ?_); rintro e w8 ⟨rfl, hb8⟩))
      go_ret
      exact ⟨rfl, Below.next hb hb8⟩
    | some x =>
      go_enter Try.func5, Try.ntmps5
      go_wp2_with (go_at_call 14; go_must (refine HL.out.mono ?_); rintro e w1 ⟨rfl, hb⟩)
      refine (HA.out _ hb).mono ?_
      rintro e w2 ⟨va, rfl, owna, hb2⟩
      obtain ⟨aa, ca, hva⟩ := OwnW.shp owna
      rw [hva] at owna ⊢
      replace owna := OwnX.base owna hb.size
      replace hb := Below.next hb hb2
      clear hva hb2
      go_wp2_with fail
      refine (HJ.out.1 _ _ (rowS_nil' _ _ _ (by omega) (fun h => by cases h))).mono ?_
      rintro e w3 ⟨vb, rfl, ownb, hb3⟩
      obtain ⟨ab, cb, hvb⟩ := OwnW.shp ownb
      rw [hvb] at ownb ⊢
      replace owna := OwnX.below owna hb3 (Nat.le_refl _)
      replace hb := Below.next hb hb3
      clear hvb hb3
      go_wp2_with fail
      refine (HJ.out.2.1 _ _ (rowS_nil' _ _ _ (by omega) (fun h => by cases h))).mono ?_
      rintro e w4 ⟨vc, rfl, ownc, hb4⟩
      obtain ⟨ac, cc, hvc⟩ := OwnW.shp ownc
      rw [hvc] at ownc ⊢
      replace owna := OwnX.below owna hb4 (Nat.le_refl _)
      replace ownb := OwnX.below ownb hb4 (Nat.le_refl _)
      replace hb := Below.next hb hb4
      clear hvc hb4
      go_wp2_with fail
      refine (HJ.out.2.2 _ _ _ (OwnW.row ownb) (OwnW.row ownc)).mono ?_
      rintro e w5 ⟨vd, rfl, ownd, hb5⟩
      obtain ⟨ad, cd, hvd⟩ := OwnW.shp ownd
      rw [hvd] at ownd ⊢
      replace owna := OwnX.below owna hb5 (Nat.le_refl _)
      replace hb := Below.next hb hb5
      clear hvd hb5 ownb ownc
      go_wp2_with (first
        | (go_at_call 16; go_must (refine (good_zeros _ 3 _ (row_three_zeros _ _)).mono ?_); rintro e w6 ⟨rfl, rfl⟩; replace owna := OwnX.below owna (bel_a _ (.cells #[.int .i64 0, .int .i64 0, .int .i64 0] 24)) (Nat.le_refl _); replace ownd := OwnX.below ownd (bel_a _ (.cells #[.int .i64 0, .int .i64 0, .int .i64 0] 24)) (Nat.le_refl _); replace hb := below_alloc hb (.cells #[.int .i64 0, .int .i64 0, .int .i64 0] 24))
        | (go_at_call 17; go_must (refine (equalW_self _ _ A _ (OwnW.row owna) (OwnW.row ownd)).mono ?_); rintro e w8 ⟨rfl, hb8⟩))
      go_ret
      exact ⟨rfl, Below.next hb hb8⟩
  · by_cases hkc : k = cap
    · have hd0 : Hid (l.drop k = []) := List.drop_of_length_le (by omega)
      have HZ : Hid (l.length - k = 0) := by show _ = _; omega
      have kc : (k : Int) ≤ (l.length : Int) := by omega
      rw [hd0.out] at HJ
      subst hkc
      go_enter Try.func5, Try.ntmps5
      go_wp2_with (go_at_call 14; go_must (refine HL.out.mono ?_); rintro e w1 ⟨rfl, hb⟩)
      refine (HA.out _ hb).mono ?_
      rintro e w2 ⟨va, rfl, owna, hb2⟩
      obtain ⟨aa, ca, hva⟩ := OwnW.shp owna
      rw [hva] at owna ⊢
      replace owna := OwnX.base owna hb.size
      replace hb := Below.next hb hb2
      clear hva hb2
      go_wp2_with fail
      refine (HJ.out.1 _ _ (by have := (HR.out _ hb).part 0 k (by omega) off k (by omega) (by omega); simpa using this)).mono ?_
      rintro e w3 ⟨vb, rfl, ownb, hb3⟩
      obtain ⟨ab, cb, hvb⟩ := OwnW.shp ownb
      rw [hvb] at ownb ⊢
      replace owna := OwnX.below owna hb3 (Nat.le_refl _)
      replace hb := Below.next hb hb3
      clear hvb hb3
      go_wp2_with fail
      refine (HJ.out.2.1 _ _ (rowS_nil' _ _ _ (by omega) (fun h => by cases h))).mono ?_
      rintro e w4 ⟨vc, rfl, ownc, hb4⟩
      obtain ⟨ac, cc, hvc⟩ := OwnW.shp ownc
      rw [hvc] at ownc ⊢
      replace owna := OwnX.below owna hb4 (Nat.le_refl _)
      replace ownb := OwnX.below ownb hb4 (Nat.le_refl _)
      replace hb := Below.next hb hb4
      clear hvc hb4
      go_wp2_with fail
      refine (HJ.out.2.2 _ _ _ (OwnW.row ownb) (OwnW.row ownc)).mono ?_
      rintro e w5 ⟨vd, rfl, ownd, hb5⟩
      obtain ⟨ad, cd, hvd⟩ := OwnW.shp ownd
      rw [hvd] at ownd ⊢
      replace owna := OwnX.below owna hb5 (Nat.le_refl _)
      replace hb := Below.next hb hb5
      clear hvd hb5 ownb ownc
      go_wp2_with (first
        | (go_at_call 16; go_must (refine (good_zeros _ 3 _ (row_three_zeros _ _)).mono ?_); rintro e w6 ⟨rfl, rfl⟩; replace owna := OwnX.below owna (bel_a _ (.cells #[.int .i64 0, .int .i64 0, .int .i64 0] 24)) (Nat.le_refl _); replace ownd := OwnX.below ownd (bel_a _ (.cells #[.int .i64 0, .int .i64 0, .int .i64 0] 24)) (Nat.le_refl _); replace hb := below_alloc hb (.cells #[.int .i64 0, .int .i64 0, .int .i64 0] 24))
        | (go_at_call 17; go_must (refine (equalW_self _ _ A _ (OwnW.row owna) (OwnW.row ownd)).mono ?_); rintro e w8 ⟨rfl, hb8⟩))
      go_ret
      exact ⟨rfl, Below.next hb hb8⟩
    · have hkc2 : (k : Int) ≤ (cap : Int) := by omega
      go_enter Try.func5, Try.ntmps5
      go_wp2_with (go_at_call 14; go_must (refine HL.out.mono ?_); rintro e w1 ⟨rfl, hb⟩)
      refine (HA.out _ hb).mono ?_
      rintro e w2 ⟨va, rfl, owna, hb2⟩
      obtain ⟨aa, ca, hva⟩ := OwnW.shp owna
      rw [hva] at owna ⊢
      replace owna := OwnX.base owna hb.size
      replace hb := Below.next hb hb2
      clear hva hb2
      go_wp2_with fail
      refine (HJ.out.1 _ _ (by have := (HR.out _ hb).part 0 k (by omega) off cap (by omega) (by omega); simpa using this)).mono ?_
      rintro e w3 ⟨vb, rfl, ownb, hb3⟩
      obtain ⟨ab, cb, hvb⟩ := OwnW.shp ownb
      rw [hvb] at ownb ⊢
      replace owna := OwnX.below owna hb3 (Nat.le_refl _)
      replace hb := Below.next hb hb3
      clear hvb hb3
      go_wp2_with fail
      refine (HJ.out.2.1 _ _ (by have := (HR.out _ hb).part k (l.length - k) (by omega) (off + k * 2) (cap - k) rfl rfl; rwa [List.take_of_length_le (by simp)] at this)).mono ?_
      rintro e w4 ⟨vc, rfl, ownc, hb4⟩
      obtain ⟨ac, cc, hvc⟩ := OwnW.shp ownc
      rw [hvc] at ownc ⊢
      replace owna := OwnX.below owna hb4 (Nat.le_refl _)
      replace ownb := OwnX.below ownb hb4 (Nat.le_refl _)
      replace hb := Below.next hb hb4
      clear hvc hb4
      go_wp2_with fail
      refine (HJ.out.2.2 _ _ _ (OwnW.row ownb) (OwnW.row ownc)).mono ?_
      rintro e w5 ⟨vd, rfl, ownd, hb5⟩
      obtain ⟨ad, cd, hvd⟩ := OwnW.shp ownd
      rw [hvd] at ownd ⊢
      replace owna := OwnX.below owna hb5 (Nat.le_refl _)
      replace hb := Below.next hb hb5
      clear hvd hb5 ownb ownc
      go_wp2_with (first
        | (go_at_call 16; go_must (refine (good_zeros _ 3 _ (row_three_zeros _ _)).mono ?_); rintro e w6 ⟨rfl, rfl⟩; replace owna := OwnX.below owna (bel_a _ (.cells #[.int .i64 0, .int .i64 0, .int .i64 0] 24)) (Nat.le_refl _); replace ownd := OwnX.below ownd (bel_a _ (.cells #[.int .i64 0, .int .i64 0, .int .i64 0] 24)) (Nat.le_refl _); replace hb := below_alloc hb (.cells #[.int .i64 0, .int .i64 0, .int .i64 0] 24))
        | (go_at_call 17; go_must (refine (equalW_self _ _ A _ (OwnW.row owna) (OwnW.row ownd)).mono ?_); rintro e w8 ⟨rfl, hb8⟩))
      go_ret
      exact ⟨rfl, Below.next hb hb8⟩
theorem walk_RollJoin (v : Value) (l : List (Int × Int)) (k wd : Int) (w : World) (hr : RowS w v l) (_ : P.I64s l) (_ : l.length * 16 ≤ 140737488351232) (_ : -9223372036854775808 ≤ k) (_ : k ≤ 9223372036854775807) (_ : -9223372036854775808 ≤ wd) (_ : wd ≤ 9223372036854775807) :
    Calls Try.prog 5 #[v, .int .i64 k, .int .i64 wd] w fun e w' => e = .returned (.bool true) ∧ Below w.heap.size w w' := by
  by_cases h : k < 0 ∨ (l.length : Int) < k
  · exact joinA v l k wd w hr h
  · by_cases hc : P.roerr l wd = 0
    · obtain ⟨n, rfl⟩ : ∃ n : Nat, k = n := ⟨k.toNat, by omega⟩
      exact joinC v l n wd w hr (by omega) hc
    · exact joinB v l k wd w hr (by omega) (by omega) hc

set_option maxRecDepth 100000 in
theorem lifted_RollJoin (os : Os) (started : os.Started) (H : Type) (enc : TypeId × Value → H) :
    ReturnsInHanded {} Try.checked os 5 .any (Rows.rollJoinSpec.pre6 enc Try.prog Try.f5 Rows.rollJoinRow.domain false) (Rows.rollJoinSpec.post enc Try.prog Try.f5 false true false false) := by
  refine returnsInHanded_of_change_sized (C := Try.checked) own started (by kernel_rfl) Try.func5
    (ChangeSpec.witness6 (enc := enc) (C := Try.checked) false ⟨#[], #[.slice none 0 0, .int .i64 0, .int .i64 0], []⟩ 8 (by kernel_rfl) (by kernel_rfl) (by kernel_rfl) (by kernel_rfl)) ?_
  intro W base args ds gs before hval0 hW hcnd hsz0  _
  have hsz : (DataW.weightsEach Try.prog (Try.f5.params.toList ++ Rows.rollJoinSpec.plain.varTypes Try.prog) (ds ++ gs)).all (· ≤ reachBytes) = true := hsz0
  have hval : ∀ (j : Nat) t v, Try.f5.params[j]? = some t → args[j]? = some v → Value.okWide Try.prog W .any base t v := hval0
  have hW' := hW
  obtain ⟨p, q, hA0, hV, rfl, hfz, hnd⟩ := hW
  have hA : DataW.TrodAll enc Try.prog W 0 (fun _ => true) true Try.f5.params.toList args.toList ds p := hA0
  rw [Try.params5] at hA hval hsz
  obtain ⟨v0, vs0, d0, ds0, p0, q0, hargs, rfl, rfl, h0, r0⟩ := trodAll_cons hA
  obtain ⟨v1, vs1, d1, ds1, p1, q1, rfl, rfl, rfl, h1, r1⟩ := trodAll_cons r0
  obtain ⟨v2, vs2, d2, ds2, p2, q2, rfl, rfl, rfl, h2, r2⟩ := trodAll_cons r1
  obtain ⟨rfl, rfl, rfl⟩ := trodAll_nil r2
  obtain rfl : args = #[v0, v1, v2] := by cases args; simp_all
  obtain ⟨rfl, rfl⟩ := trodVars_none hV
  have k0 := h0
  have lt0 : ∀ x ∈ p0, x.block < W.heap.size := by obtain ⟨m, hm⟩ := k0; exact DataW.trod_lt m _ _ _ hm
  obtain ⟨s0, len0, cap0, rfl⟩ := okWide_slice Try.underlying22 (hval 0 22 v0 rfl rfl)
  obtain ⟨l0, row0, wf0, sh0⟩ := open_samples h0
  have rc0 := row_reachN hsz (j := 0) (t := 22) rfl rfl Try.underlying22 sh0
  rw [bytes40] at rc0
  have k1 := h1
  have lt1 : ∀ x ∈ p1, x.block < W.heap.size := by obtain ⟨m, hm⟩ := k1; exact DataW.trod_lt m _ _ _ hm
  obtain ⟨a1, rfl, rfl, rfl, w1⟩ := open_int Try.underlying3 (hval 1 3 v1 rfl rfl) h1
  have b1 := bounds_i64 w1
  have k2 := h2
  have lt2 : ∀ x ∈ p2, x.block < W.heap.size := by obtain ⟨m, hm⟩ := k2; exact DataW.trod_lt m _ _ _ hm
  obtain ⟨a2, rfl, rfl, rfl, w2⟩ := open_int Try.underlying2 (hval 2 2 v2 rfl rfl) h2
  have b2 := bounds_i64 w2
  clear hA0 hval0
  refine (walk_RollJoin (.slice s0 len0 cap0) l0 a1 a2 W row0 wf0 rc0 b1.1 b1.2 b2.1 b2.2).mono fun e W' ⟨he, bel⟩ => ?_
  subst he
  exact ⟨_, rfl, _, _, _, [], _, [], hW', trodAll_mk1 (shut_bool Try.underlying4 _), (trodAll_cons_mk (Below.trod laidOut (by kernel_rfl) (of_decide_eq_true (by kernel_rfl)) k0 bel lt0) (trodAll_cons_mk (Below.trod laidOut (by kernel_rfl) (of_decide_eq_true (by kernel_rfl)) k1 bel lt1) (trodAll_cons_mk (Below.trod laidOut (by kernel_rfl) (of_decide_eq_true (by kernel_rfl)) k2 bel lt2) trodAll_mk0))), rfl, bel.frame _, fun h => by cases h⟩

theorem proved_RollJoin : Rows.RollJoinSaid :=
  OpenClaim.holds_of_wide 5 Try.f5 rfl rfl rfl rfl rfl rfl rfl ⟨rfl, rfl, rfl, rfl, rfl⟩ rfl rfl rfl rfl rfl (by kernel_rfl) Try.func5 (by kernel_rfl)
    (of_decide_eq_true (by kernel_rfl)) (by unfold Func.isWrapper; first | (rw [if_pos (by decide +kernel)]; kernel_rfl) | (rw [if_neg (by decide +kernel)]; exact ⟨rfl, rfl⟩))
    (fun os started H enc _ => lifted_RollJoin os started H enc)
#print axioms proved_RollJoin

end Go.Proofs.Ytgfjhcjplhlonaa
