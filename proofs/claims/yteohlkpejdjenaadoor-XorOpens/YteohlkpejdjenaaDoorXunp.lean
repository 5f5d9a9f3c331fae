/- What xor.Unpack answers. -/
import Derived.Test.YteohlkpejdjenaaDoorXmeas
namespace Go.Proofs.YteohlkpejdjenaaDoor
open Go.RowKit
set_option linter.unusedVariables false
set_option linter.unusedSimpArgs false

theorem measures_many (v : Value) (bs : List Bool) (n g : Nat) (w0 w : World) (hr : RowB w0 v (P.pack bs)) (n1 : (bs.length : Int) ≤ 9223372036854775000) (h : Rd w0 w g v bs 0 false) (h16 : 16 ≤ bs.length) (hn : P.val (bs.take 16) = n) (hgt : 1000 < n) :
    Calls Tryd.prog 31 #[ptr g] w fun e w' => But g w w' ∧ e = .returned (.slice none 0 0) ∧ Rd w0 w' g v bs 16 true := by
  have HA := rpull_ok v bs 0 16 g false w0 w hr n1 h (by decide) (by omega)
  rw [List.drop_zero, hn] at HA
  replace HA := hide HA
  have hd : decide (1000 < (n : Int)) = true := by simp; omega
  clear hn
  go_enter Tryd.func31, Tryd.ntmps31
  go_wp2_with fail
  refine HA.out.mono ?_
  rintro e w3 ⟨rfl, h3, b3⟩
  clear HA h
  obtain ⟨ko, kg, k0, k1, k2, k3, kf2, kf3⟩ := id h3
  go_wp2
  go_ret
  exact ⟨b3.setCell 3 _, rfl, h3.setBr⟩
theorem measures_any (v : Value) (bs : List Bool) (g : Nat) (w0 w : World) (hr : RowB w0 v (P.pack bs)) (n1 : (bs.length : Int) ≤ 9223372036854775000) (ht : Tab w0) (h : Rd w0 w g v bs 0 false) :
    Calls Tryd.prog 31 #[ptr g] w fun e w' => But g w w' ∧
      ((∃ (l : List Int) (a : Option Addr) (c : Nat), P.Is bs l ∧ (∀ m, P.Is bs m → m = l) ∧ OwnK 40 .u64 w' (g + 1) (.slice a l.length c) l ∧ e = .returned (.slice a l.length c) ∧ Rd w0 w' g v bs (P.packT l).length false) ∨
       (∃ (a : Option Addr) (k c q' : Nat), (∀ m, ¬ P.Is bs m) ∧ e = .returned (.slice a k c) ∧ Rd w0 w' g v bs q' true)) := by
  by_cases h16 : 16 ≤ bs.length
  · by_cases hle : P.val (bs.take 16) ≤ 1000
    · refine measures_gen v bs _ 16 g false w0 w hr n1 ht h hle (fun _ => rfl) (P.St.start h16 rfl hle) h16 (fun w h => ?_)
      have h1 := rpull_ok v bs 0 16 g false w0 w hr n1 h (by decide) (by omega)
      rw [List.drop_zero] at h1
      exact h1
    · refine (measures_many v bs _ g w0 w hr n1 h h16 rfl (by omega)).mono ?_
      rintro e w' ⟨h1, rfl, h2⟩
      refine ⟨h1, .inr ⟨none, 0, 0, 16, fun m hm => ?_, rfl, h2⟩⟩
      have := hm.count.2
      have := hm.1
      omega
  · have hno : ∀ m, ¬ P.Is bs m := fun m hm => h16 hm.count.1
    refine measures_gen v bs 0 0 g true w0 w hr n1 ht h (by decide) (fun h => by cases h) (P.St.dead hno) (by omega) (fun w h => ?_)
    exact rpull_bad v bs 0 16 g false w0 w hr n1 h (by decide) (by omega) (by omega)

/-- Just what Pack makes of this list. -/
def Isx (bs : List Bool) (m : List Int) : Prop := m.length ≤ 1000 ∧ P.U64 m ∧ bs = P.packT m
theorem Isx.is {bs : List Bool} {m : List Int} (h : Isx bs m) : P.Is bs m := ⟨h.1, h.2.1, by rw [h.2.2]; unfold P.Fr; rw [List.take_length]⟩
theorem OwnK.lower {t : TypeId} {k : IntKind} {w : World} {b b' : Nat} {v : Value} {l : List Int} (h : OwnK t k w b v l) (hb : b' ≤ b) : OwnK t k w b' v l := h.base hb
theorem rd_new (w W2 : World) (v : Value) (bs : List Bool) (hb : Below w.heap.size w W2) : Rd w (W2.alloc (.cells #[v, .int .i64 bs.length, .int .i64 0, .bool false] 60)) W2.heap.size v bs 0 false :=
  ⟨below_alloc hb _, hb.size, by simp, by simp, by simp, by simp, by simp, by simp⟩
set_option maxHeartbeats 1000000 in
theorem unpack_ok (v : Value) (bs : List Bool) (w : World) (hr : RowB w v (P.pack bs)) (n1 : (bs.length : Int) ≤ 9223372036854775000) (ht : Tab w) :
    Calls Tryd.prog 13 #[.agg #[v, .int .i64 bs.length]] w fun e w' => Below w.heap.size w w' ∧
      ((∃ (l : List Int) (a : Option Addr) (c : Nat), Isx bs l ∧ (∀ m, Isx bs m → m = l) ∧ OwnK 40 .u64 w' w.heap.size (.slice a l.length c) l ∧ e = .returned (.tuple #[.slice a l.length c, .int .i64 0])) ∨
       ((∀ m, ¬ Isx bs m) ∧ e = .returned (.tuple #[.slice none 0 0, .int .i64 4]))) := by
  have hr1 := hr.below ((Below.refl _ _).alloc (Nat.le_refl _) (.cells #[v, .int .i64 bs.length] 25)) (Nat.le_refl _)
  have HCk := hide (fun (w : World) (hr : RowB w v (P.pack bs)) => check_ok v _ _ w hr (P.pack_byt _ bs) (show (bs.length : Int) ≤ 9223372036854775807 by omega) (P.pack_ok bs))
  have HM := hide (fun (W : World) (g : Nat) (h : Rd w W g v bs 0 false) => measures_any v bs g w W hr n1 ht h)
  have hX := B2.new w v (.int .i64 bs.length) 25
  obtain ⟨av, capv, hv⟩ : ∃ (a : Option Addr) (cap : Nat), v = .slice a (P.pack bs).length cap := by obtain ⟨a, cap, h, _⟩ := hr; exact ⟨a, cap, h⟩
  subst hv
  go_enter Tryd.func13, Tryd.ntmps13
  go_wp2_with fail
  refine (HCk.out _ hr1).mono ?_
  rintro e w2 ⟨rfl, hb2⟩
  have hX2 := hX.next hb2
  have hb := (box2 hb2).2.2.1
  have hX3 := hX2.alloc (.cells #[.slice av (P.pack bs).length capv, .int .i64 bs.length, .int .i64 0, .bool false] 60)
  have h3 := rd_new w w2 (.slice av (P.pack bs).length capv) bs hb
  have hlX := hX2.lt
  obtain ⟨x0, x1, xf0, xf1⟩ := id hX2
  clear hb2 hX hr1 HCk
  go_wp2_with fail
  clear x0 x1 xf0 xf1
  generalize World.alloc w2 _ = W3 at hX3 h3 ⊢
  refine (HM.out _ _ h3).mono ?_
  have hne : w.heap.size ≠ w2.heap.size := by omega
  have hls := h3.lt
  rintro e w5 ⟨b5, ⟨l, a, c, hl, huni, hown, rfl, h5⟩ | ⟨a, k, c, q', hno, rfl, h5⟩⟩
  · have hX5 := hX3.but b5 hne
    obtain ⟨x0, x1, xf0, xf1⟩ := id hX5
    obtain ⟨ko, kg, k0, k1, k2, k3, kf2, kf3⟩ := id h5
    by_cases hN : (P.packT l).length = bs.length
    · have HX : Hid (Isx bs l) := ⟨hl.1, hl.2.1, by
        have h := hl.2.2
        unfold P.Fr at h
        rw [hN, List.take_length] at h
        exact h⟩
      have hq : (((P.packT l).length : Int) != (bs.length : Int)) = false := by simp [hN]
      have HU : Hid (∀ m, Isx bs m → m = l) := fun m hm => huni m hm.is
      clear hN hl huni HM
      go_wp2
      go_ret2
      exact ⟨ko, .inl ⟨l, a, c, HX.out, HU.out, hown.lower (by omega), rfl⟩⟩
    · have HX : Hid (∀ m, ¬ Isx bs m) := fun m hm => by
        have := huni m hm.is
        subst this
        exact hN (by rw [← hm.2.2])
      have hq : (((P.packT l).length : Int) != (bs.length : Int)) = true := by rw [bne_iff_ne]; omega
      clear hN hl huni HM
      go_wp2
      go_ret2
      exact ⟨ko, .inr ⟨HX.out, rfl⟩⟩
  · have HX : Hid (∀ m, ¬ Isx bs m) := fun m hm => hno m hm.is
    have hX5 := hX3.but b5 hne
    obtain ⟨x0, x1, xf0, xf1⟩ := id hX5
    obtain ⟨ko, kg, k0, k1, k2, k3, kf2, kf3⟩ := id h5
    clear hno HM
    go_wp2
    go_ret2
    exact ⟨ko, .inr ⟨HX.out, rfl⟩⟩
theorem unpack_bad (v : Value) (l : List Int) (n : Int) (w : World) (hr : RowB w v l) (hbt : Byt l) (n0 : -9223372036854775808 ≤ n) (n1 : n ≤ 9223372036854775807) (hok : ¬ P.OkB l n) :
    Calls Tryd.prog 13 #[.agg #[v, .int .i64 n]] w fun e w' => Below w.heap.size w w' ∧ e = .returned (.tuple #[.slice none 0 0, .int .i64 4]) := by
  have hr1 := hr.below ((Below.refl _ _).alloc (Nat.le_refl _) (.cells #[v, .int .i64 n] 25)) (Nat.le_refl _)
  go_enter Tryd.func13, Tryd.ntmps13
  go_wp2_with (go_at_call 20; go_must (refine (check_bad _ l n _ hr1 hbt n0 n1 hok).mono ?_); rintro e w2 ⟨rfl, hb2⟩)
  go_ret2
  exact ⟨(box2 hb2).2.2.1, rfl⟩
/-- xors answers true. -/
theorem rowK_nil (k : IntKind) (w : World) : RowK k w (.slice none 0 0) [] := ⟨none, 0, rfl, ⟨by simp, by simp, fun _ => rfl⟩, .inl rfl⟩
theorem packT_nil : (P.packT []).length = 16 := by decide
theorem xors_any (w : World) (ht : Tab w) : Calls Tryd.prog 18 #[] w fun e w' => e = .returned (.bool true) ∧ Below w.heap.size w w' := by
  have HP : Hid (Calls Tryd.prog 9 #[.slice none 0 0] w fun e w' => ∃ vy, e = .returned (.tuple #[.agg #[vy, .int .i64 16], .int .i64 0]) ∧ OwnB w' w.heap.size vy (P.pack (P.packT [])) ∧ Below w.heap.size w w') := by
    have h := pack_any (.slice none 0 0) [] w (rowK_nil _ w) (fun x hx => by cases hx) (by simp) ht
    rw [packT_nil] at h
    exact h
  go_enter Tryd.func18, Tryd.ntmps18
  go_wp2_with (go_at_call 9; go_must (refine HP.out.mono ?_); rintro e w3 ⟨vy, rfl, hown, hb2⟩; obtain ⟨ay, capy, hvy⟩ := hown.shp; rw [hvy] at hown ⊢; clear hvy)
  go_ret
  exact ⟨rfl, below_alloc hb2 _⟩
end Go.Proofs.YteohlkpejdjenaaDoor
