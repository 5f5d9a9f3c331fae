/- What delta.Unpack answers. -/
import Derived.Test.YtlejpbghakaooaaDoorDtimes
namespace Go.Proofs.YtlejpbghakaooaaDoor
open Go.RowKit
set_option linter.unusedVariables false

theorem times_short (v : Value) (bs : List Bool) (w : World) (hr : RowB w v (P.pack bs)) (n1 : (bs.length : Int) ≤ 9223372036854775000) (h16 : bs.length < 16) :
    Calls Tryd.prog 26 #[.agg #[v, .int .i64 bs.length]] w fun e w' => Below w.heap.size w w' ∧ e = .returned (.tuple #[.slice none 0 0, .int .i64 0, .int .i64 4]) := by
  have HC := hide (fun (w : World) (hr : RowB w v (P.pack bs)) => pull_short v _ _ 0 16 w hr (P.pack_byt _ bs) (show (bs.length : Int) ≤ 9223372036854775807 by omega) (P.pack_ok bs) (by decide) (by decide) (by decide) (by decide) (by omega))
  have hr1 := hr.below ((Below.refl _ _).alloc (Nat.le_refl _) (.cells #[v, .int .i64 bs.length] 25)) (Nat.le_refl _)
  go_enter Tryd.func26, Tryd.ntmps26
  go_wp2_with (go_at_call 35; go_must (refine (HC.out _ hr1).mono ?_); rintro e w2 ⟨rfl, hb2⟩)
  exact bodyPost_ret (v := .tuple #[.slice none 0 0, .int .i64 0, .int .i64 4]) (by simp [results, Tryd.results26, go_sem]) rfl ⟨(box2 hb2).2.2.1, rfl⟩
theorem times_many (v : Value) (bs : List Bool) (n : Nat) (w : World) (hr : RowB w v (P.pack bs)) (n1 : (bs.length : Int) ≤ 9223372036854775000) (h16 : 16 ≤ bs.length) (hn : P.val (bs.take 16) = n) (hle : 1000 < n) :
    Calls Tryd.prog 26 #[.agg #[v, .int .i64 bs.length]] w fun e w' => Below w.heap.size w w' ∧ e = .returned (.tuple #[.slice none 0 0, .int .i64 0, .int .i64 4]) := by
  have HC16 : Hid (∀ w : World, RowB w v (P.pack bs) → Calls Tryd.prog 35 #[.agg #[v, .int .i64 bs.length], .int .i64 0, .int .i64 16] w fun e w' => e = .returned (.tuple #[.int .u64 n, .int .i64 0]) ∧ Below w.heap.size w w') := by
    intro w hr
    have h := pull_ok v bs 0 16 w hr (by omega) (by decide) (by omega)
    rw [List.drop_zero, hn] at h
    exact h
  have hr1 := hr.below ((Below.refl _ _).alloc (Nat.le_refl _) (.cells #[v, .int .i64 bs.length] 25)) (Nat.le_refl _)
  have hd : decide (1000 < (n : Int)) = true := by simp; omega
  clear hn
  go_enter Tryd.func26, Tryd.ntmps26
  go_wp2_with (go_at_call 35; go_must (refine (HC16.out _ hr1).mono ?_); rintro e w2 ⟨rfl, hb2⟩)
  exact bodyPost_ret (v := .tuple #[.slice none 0 0, .int .i64 0, .int .i64 4]) (by simp [results, Tryd.results26, go_sem]) rfl ⟨(box2 hb2).2.2.1, rfl⟩
theorem pullTimes_any (v : Value) (bs : List Bool) (w : World) (hr : RowB w v (P.pack bs)) (n1 : (bs.length : Int) ≤ 9223372036854775000) (hs : Shp w) :
    Calls Tryd.prog 26 #[.agg #[v, .int .i64 bs.length]] w fun e w' => Below w.heap.size w w' ∧
      ((∃ (l : List Int) (a : Option Addr) (c : Nat), P.Is bs l ∧ (∀ m, P.Is bs m → m = l) ∧ OwnK 2 .i64 w' w.heap.size (.slice a l.length c) l ∧ e = .returned (.tuple #[.slice a l.length c, .int .i64 ((P.packT l).length : Nat), .int .i64 0])) ∨
       ((∀ m, ¬ P.Is bs m) ∧ e = .returned (.tuple #[.slice none 0 0, .int .i64 0, .int .i64 4]))) := by
  by_cases h16 : 16 ≤ bs.length
  · by_cases hle : P.val (bs.take 16) ≤ 1000
    · exact times_loop v bs _ w hr n1 hs h16 rfl hle
    · refine (times_many v bs _ w hr n1 h16 rfl (by omega)).mono fun e w' h => ⟨h.1, .inr ⟨fun m hm => ?_, h.2⟩⟩
      have := hm.count.2
      have := hm.1
      omega
  · refine (times_short v bs w hr n1 (by omega)).mono fun e w' h => ⟨h.1, .inr ⟨fun m hm => ?_, h.2⟩⟩
    have := hm.count.1
    omega

/-- Just what Pack makes of this list. -/
def Isx (bs : List Bool) (m : List Int) : Prop := m.length ≤ 1000 ∧ P.I64 m ∧ bs = P.packT m
theorem Isx.is {bs : List Bool} {m : List Int} (h : Isx bs m) : P.Is bs m := ⟨h.1, h.2.1, by rw [h.2.2]; unfold P.Fr; rw [List.take_length]⟩
set_option maxHeartbeats 1000000 in
theorem unpack_ok (v : Value) (bs : List Bool) (w : World) (hr : RowB w v (P.pack bs)) (n1 : (bs.length : Int) ≤ 9223372036854775000) (hs : Shp w) :
    Calls Tryd.prog 13 #[.agg #[v, .int .i64 bs.length]] w fun e w' => Below w.heap.size w w' ∧
      ((∃ (l : List Int) (a : Option Addr) (c : Nat), Isx bs l ∧ (∀ m, Isx bs m → m = l) ∧ OwnK 2 .i64 w' w.heap.size (.slice a l.length c) l ∧ e = .returned (.tuple #[.slice a l.length c, .int .i64 0])) ∨
       ((∀ m, ¬ Isx bs m) ∧ e = .returned (.tuple #[.slice none 0 0, .int .i64 4]))) := by
  have hr1 := hr.below ((Below.refl _ _).alloc (Nat.le_refl _) (.cells #[v, .int .i64 bs.length] 25)) (Nat.le_refl _)
  have HCk := hide (fun (w : World) (hr : RowB w v (P.pack bs)) => check_ok v _ _ w hr (P.pack_byt _ bs) (show (bs.length : Int) ≤ 9223372036854775807 by omega) (P.pack_ok bs))
  have HT := hide (fun (w : World) (hr : RowB w v (P.pack bs)) (hs : Shp w) => pullTimes_any v bs w hr n1 hs)
  go_enter Tryd.func13, Tryd.ntmps13
  go_wp2_with (go_at_call 20; go_must (refine (HCk.out _ hr1).mono ?_); rintro e w2 ⟨rfl, hb2⟩; obtain ⟨x0, x1, hb, hsz⟩ := box2 hb2; clear hb2)
  have hr2 : RowB w2 v (P.pack bs) := hr.below hb (Nat.le_refl _)
  have hs2 : Shp w2 := hs.next hb
  refine (HT.out _ hr2 hs2).mono ?_
  rintro e w3 ⟨hb3, ⟨l, a, c, hl, huni, hown, rfl⟩ | ⟨hno, rfl⟩⟩
  · have y1 := keep_cell x1 hb3
    have hb4 := Below.next hb hb3
    have hown' := hown.base hb.size
    by_cases hN : (P.packT l).length = bs.length
    · have HX : Hid (Isx bs l) := ⟨hl.1, hl.2.1, by
        have h := hl.2.2
        unfold P.Fr at h
        rw [hN, List.take_length] at h
        exact h⟩
      have hq : (((P.packT l).length : Int) != (bs.length : Int)) = false := by simp [hN]
      have HU : Hid (∀ m, Isx bs m → m = l) := fun m hm => huni m hm.is
      clear hN hl huni HT HCk
      go_wp2
      go_ret2
      exact ⟨hb4, .inl ⟨l, a, c, HX.out, HU.out, hown', rfl⟩⟩
    · have HX : Hid (∀ m, ¬ Isx bs m) := fun m hm => by
        have := huni m hm.is
        subst this
        exact hN (by rw [← hm.2.2])
      have hq : (((P.packT l).length : Int) != (bs.length : Int)) = true := by rw [bne_iff_ne]; omega
      clear hN hl huni HT HCk
      go_wp2
      go_ret2
      exact ⟨hb4, .inr ⟨HX.out, rfl⟩⟩
  · have HX : Hid (∀ m, ¬ Isx bs m) := fun m hm => hno m hm.is
    have hb4 := Below.next hb hb3
    clear hno HT HCk
    go_wp2
    go_ret2
    exact ⟨hb4, .inr ⟨HX.out, rfl⟩⟩
theorem unpack_bad (v : Value) (l : List Int) (n : Int) (w : World) (hr : RowB w v l) (hbt : Byt l) (n0 : -9223372036854775808 ≤ n) (n1 : n ≤ 9223372036854775807) (hok : ¬ P.OkB l n) :
    Calls Tryd.prog 13 #[.agg #[v, .int .i64 n]] w fun e w' => Below w.heap.size w w' ∧ e = .returned (.tuple #[.slice none 0 0, .int .i64 4]) := by
  have hr1 := hr.below ((Below.refl _ _).alloc (Nat.le_refl _) (.cells #[v, .int .i64 n] 25)) (Nat.le_refl _)
  go_enter Tryd.func13, Tryd.ntmps13
  go_wp2_with (go_at_call 20; go_must (refine (check_bad _ l n _ hr1 hbt n0 n1 hok).mono ?_); rintro e w2 ⟨rfl, hb2⟩)
  go_ret2
  exact ⟨(box2 hb2).2.2.1, rfl⟩
end Go.Proofs.YtlejpbghakaooaaDoor
