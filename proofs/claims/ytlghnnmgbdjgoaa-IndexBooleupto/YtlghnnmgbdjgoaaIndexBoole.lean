/- IndexBoole, for whatever three lists of at most 1048576 numbers in all: and, or are shared out over each other, swallow each other, and don't hang on the order. -/
import Derived.Test.YtlghnnmgbdjgoaaSetL
namespace Go.Proofs.Ytlghnnmgbdjgoaa
open Go.RowKit Go.ChangeShapes Go.WideShapes Go.ChangeAt Go.Joins
set_option linter.unusedVariables false
theorem eqA (a b : List Int) : Q.andL a b = Q.andL b a := Q.asc_ext (Q.andL_asc _ _) (Q.andL_asc _ _) (fun x => by rw [Q.mem_andL, Q.mem_andL, and_comm])
theorem eqB (a b : List Int) : Q.orL a b = Q.orL b a := Q.asc_ext (Q.orL_asc _ _) (Q.orL_asc _ _) (fun x => by rw [Q.mem_orL, Q.mem_orL, or_comm])
theorem eqC (a b c : List Int) : Q.andL a (Q.orL b c) = Q.orL (Q.andL a b) (Q.andL a c) := Q.asc_ext (Q.andL_asc _ _) (Q.orL_asc _ _) (fun x => by rw [Q.mem_andL, Q.mem_orL, Q.mem_orL, Q.mem_andL, Q.mem_andL, and_or_left])
theorem eqD (a b c : List Int) : Q.orL a (Q.andL b c) = Q.andL (Q.orL a b) (Q.orL a c) := Q.asc_ext (Q.orL_asc _ _) (Q.andL_asc _ _) (fun x => by rw [Q.mem_orL, Q.mem_andL, Q.mem_andL, Q.mem_orL, Q.mem_orL, or_and_left])
theorem eqE (a b : List Int) : Q.andL a (Q.orL a b) = Q.orL a [] := Q.asc_ext (Q.andL_asc _ _) (Q.orL_asc _ _) (fun x => by
  rw [Q.mem_andL, Q.mem_orL, Q.mem_orL]
  exact ⟨fun h => .inl h.1, fun h => h.elim (fun h => ⟨h, .inl h⟩) (fun h => by cases h)⟩)
theorem eqF (a b : List Int) : Q.orL a (Q.andL a b) = Q.andL a a := Q.asc_ext (Q.orL_asc _ _) (Q.andL_asc _ _) (fun x => by
  rw [Q.mem_orL, Q.mem_andL, Q.mem_andL]
  exact ⟨fun h => h.elim (fun h => ⟨h, h⟩) (fun h => ⟨h.1, h.1⟩), fun h => .inl h.1⟩)
theorem eqB_any (v1 v2 : Value) (l m : List Int) (w : World) (h1 : RowK .i64 w v1 l) (h2 : RowK .i64 w v2 m) :
    Calls Try.prog 30 #[v1, v2] w fun e w' => e = .returned (.bool (decide (l = m))) ∧ Below w.heap.size w w' := by
  have HE := hide (equalI_any v1 v2 l m w h1 h2)
  obtain ⟨a0, ca, rfl, _⟩ := h1
  obtain ⟨b0, cb, rfl, _⟩ := h2
  generalize decide (l = m) = d at *
  go_enter Try.func30, Try.ntmps30
  go_wp2_with fail
  refine HE.out.mono ?_
  rintro e w1 ⟨rfl, b1⟩
  go_wp2
  go_ret
  exact ⟨rfl, b1⟩
def Short (l : List Int) : Prop := l.length ≤ 10000000
set_option maxHeartbeats 4000000 in
theorem boole_any (va vb vc : Value) (a b c : List Int) (w : World) (ha : RowK .i64 w va a) (hb : RowK .i64 w vb b) (hc : RowK .i64 w vc c) (la : a.length ≤ 1048576) (lb : b.length ≤ 1048576) (lc : c.length ≤ 1048576) :
    Calls Try.prog 7 #[va, vb, vc] w fun e w' => e = .returned (.bool true) ∧ Below w.heap.size w w' := by
  have HI := hide (indexes_any w)
  have HAnd := hide (fun w' p q x y (hx : RowK .i64 w' p x) (hy : RowK .i64 w' q y) (sx : Short x) (sy : Short y) => and_any w' p q x y hx hy (by unfold Short at *; omega) (by unfold Short at *; omega) (by have := Q.andL_len x y; unfold Short at *; omega))
  have HOr := hide (fun w' p q x y (hx : RowK .i64 w' p x) (hy : RowK .i64 w' q y) (sx : Short x) (sy : Short y) => or_any w' p q x y hx hy (by unfold Short at *; omega))
  have HEq := hide (fun w' p q x y (hx : RowK .i64 w' p x) (hy : RowK .i64 w' q y) (e : x = y) => by have := eqB_any p q x y w' hx hy; rw [decide_eq_true e] at this; exact this)
  have La : Hid (a.length ≤ 1048576) := la
  have Sa := hide (show Short a by unfold Short; omega)
  have Ra := hide ha
  have Lb : Hid (b.length ≤ 1048576) := lb
  have Sb := hide (show Short b by unfold Short; omega)
  have Rb := hide hb
  have Lc : Hid (c.length ≤ 1048576) := lc
  have Sc := hide (show Short c by unfold Short; omega)
  have Rc := hide hc
  have SNIL := hide (show Short [] by simp [Short])
  have LNIL : Hid (([] : List Int).length ≤ 0) := Nat.le_refl _
  obtain ⟨a0, ca, rfl, _⟩ := ha
  obtain ⟨b0, cb, rfl, _⟩ := hb
  obtain ⟨c0, cc, rfl, _⟩ := hc
  clear la lb lc
  go_enter Try.func7, Try.ntmps7
  go_wp2_with fail
  refine HI.out.mono ?_
  rintro e W0 ⟨rfl, b1⟩
  have hB := hide b1
  replace Ra := hide (Ra.out.below b1 (Nat.le_refl _))
  replace Rb := hide (Rb.out.below b1 (Nat.le_refl _))
  replace Rc := hide (Rc.out.below b1 (Nat.le_refl _))
  clear b1 HI
  go_wp2_with fail
  refine (HAnd.out _ _ _ _ _ Ra.out Rb.out Sa.out Sb.out).mono ?_
  rintro e W1 ⟨v1, rfl, own1, b1⟩
  have Ld1 : Hid ((Q.andL a b).length ≤ 1048576) := by have h1 := La.out; have h2 := Lb.out; have := Q.andL_len a b; exact (show _ ≤ _ by omega)
  generalize qd1 : Q.andL a b = d1 at own1 Ld1
  have Qd1 := hide qd1
  have Sd1 := hide (show Short d1 by have := Ld1.out; unfold Short; omega)
  have Rd1 := hide own1.row
  replace hB := hide (Below.next hB.out b1)
  obtain ⟨a1, c1, hv⟩ := own1.shape
  subst hv
  replace Ra := hide (Ra.out.below b1 (Nat.le_refl _))
  replace Rb := hide (Rb.out.below b1 (Nat.le_refl _))
  replace Rc := hide (Rc.out.below b1 (Nat.le_refl _))
  clear own1 b1 qd1
  go_wp2_with fail
  refine (HAnd.out _ _ _ _ _ Rb.out Ra.out Sb.out Sa.out).mono ?_
  rintro e W2 ⟨v2, rfl, own2, b2⟩
  have Ld2 : Hid ((Q.andL b a).length ≤ 1048576) := by have h1 := Lb.out; have h2 := La.out; have := Q.andL_len b a; exact (show _ ≤ _ by omega)
  generalize qd2 : Q.andL b a = d2 at own2 Ld2
  have Qd2 := hide qd2
  have Sd2 := hide (show Short d2 by have := Ld2.out; unfold Short; omega)
  have Rd2 := hide own2.row
  replace hB := hide (Below.next hB.out b2)
  obtain ⟨a2, c2, hv⟩ := own2.shape
  subst hv
  replace Ra := hide (Ra.out.below b2 (Nat.le_refl _))
  replace Rb := hide (Rb.out.below b2 (Nat.le_refl _))
  replace Rc := hide (Rc.out.below b2 (Nat.le_refl _))
  replace Rd1 := hide (Rd1.out.below b2 (Nat.le_refl _))
  clear own2 b2 qd2
  go_wp2_with fail
  have E3 : d1 = d2 := by rw [← Qd1.out, ← Qd2.out]; exact eqA ..
  refine (HEq.out _ _ _ _ _ Rd1.out Rd2.out E3).mono ?_
  rintro e W3 ⟨rfl, b3⟩
  replace hB := hide (Below.next hB.out b3)
  replace Ra := hide (Ra.out.below b3 (Nat.le_refl _))
  replace Rb := hide (Rb.out.below b3 (Nat.le_refl _))
  replace Rc := hide (Rc.out.below b3 (Nat.le_refl _))
  clear b3 E3 Rd1 Rd2 Sd1 Ld1 Qd1 Sd2 Ld2 Qd2
  go_wp2_with fail
  refine (HOr.out _ _ _ _ _ Ra.out Rb.out Sa.out Sb.out).mono ?_
  rintro e W4 ⟨v4, rfl, own4, b4⟩
  have Lo1 : Hid ((Q.orL a b).length ≤ 2097152) := by have h1 := La.out; have h2 := Lb.out; have := Q.orL_len a b; exact (show _ ≤ _ by omega)
  generalize qo1 : Q.orL a b = o1 at own4 Lo1
  have Qo1 := hide qo1
  have So1 := hide (show Short o1 by have := Lo1.out; unfold Short; omega)
  have Ro1 := hide own4.row
  replace hB := hide (Below.next hB.out b4)
  obtain ⟨a4, c4, hv⟩ := own4.shape
  subst hv
  replace Ra := hide (Ra.out.below b4 (Nat.le_refl _))
  replace Rb := hide (Rb.out.below b4 (Nat.le_refl _))
  replace Rc := hide (Rc.out.below b4 (Nat.le_refl _))
  clear own4 b4 qo1
  go_wp2_with fail
  refine (HOr.out _ _ _ _ _ Rb.out Ra.out Sb.out Sa.out).mono ?_
  rintro e W5 ⟨v5, rfl, own5, b5⟩
  have Lo2 : Hid ((Q.orL b a).length ≤ 2097152) := by have h1 := Lb.out; have h2 := La.out; have := Q.orL_len b a; exact (show _ ≤ _ by omega)
  generalize qo2 : Q.orL b a = o2 at own5 Lo2
  have Qo2 := hide qo2
  have So2 := hide (show Short o2 by have := Lo2.out; unfold Short; omega)
  have Ro2 := hide own5.row
  replace hB := hide (Below.next hB.out b5)
  obtain ⟨a5, c5, hv⟩ := own5.shape
  subst hv
  replace Ra := hide (Ra.out.below b5 (Nat.le_refl _))
  replace Rb := hide (Rb.out.below b5 (Nat.le_refl _))
  replace Rc := hide (Rc.out.below b5 (Nat.le_refl _))
  replace Ro1 := hide (Ro1.out.below b5 (Nat.le_refl _))
  clear own5 b5 qo2
  go_wp2_with fail
  have E6 : o1 = o2 := by rw [← Qo1.out, ← Qo2.out]; exact eqB ..
  refine (HEq.out _ _ _ _ _ Ro1.out Ro2.out E6).mono ?_
  rintro e W6 ⟨rfl, b6⟩
  replace hB := hide (Below.next hB.out b6)
  replace Ra := hide (Ra.out.below b6 (Nat.le_refl _))
  replace Rb := hide (Rb.out.below b6 (Nat.le_refl _))
  replace Rc := hide (Rc.out.below b6 (Nat.le_refl _))
  clear b6 E6 Ro1 Ro2 So1 Lo1 Qo1 So2 Lo2 Qo2
  go_wp2_with fail
  refine (HOr.out _ _ _ _ _ Rb.out Rc.out Sb.out Sc.out).mono ?_
  rintro e W7 ⟨v7, rfl, own7, b7⟩
  have Lo3 : Hid ((Q.orL b c).length ≤ 2097152) := by have h1 := Lb.out; have h2 := Lc.out; have := Q.orL_len b c; exact (show _ ≤ _ by omega)
  generalize qo3 : Q.orL b c = o3 at own7 Lo3
  have Qo3 := hide qo3
  have So3 := hide (show Short o3 by have := Lo3.out; unfold Short; omega)
  have Ro3 := hide own7.row
  replace hB := hide (Below.next hB.out b7)
  obtain ⟨a7, c7, hv⟩ := own7.shape
  subst hv
  replace Ra := hide (Ra.out.below b7 (Nat.le_refl _))
  replace Rb := hide (Rb.out.below b7 (Nat.le_refl _))
  replace Rc := hide (Rc.out.below b7 (Nat.le_refl _))
  clear own7 b7 qo3
  go_wp2_with fail
  refine (HAnd.out _ _ _ _ _ Ra.out Ro3.out Sa.out So3.out).mono ?_
  rintro e W8 ⟨v8, rfl, own8, b8⟩
  have Ld3 : Hid ((Q.andL a o3).length ≤ 1048576) := by have h1 := La.out; have h2 := Lo3.out; have := Q.andL_len a o3; exact (show _ ≤ _ by omega)
  generalize qd3 : Q.andL a o3 = d3 at own8 Ld3
  have Qd3 := hide qd3
  have Sd3 := hide (show Short d3 by have := Ld3.out; unfold Short; omega)
  have Rd3 := hide own8.row
  replace hB := hide (Below.next hB.out b8)
  obtain ⟨a8, c8, hv⟩ := own8.shape
  subst hv
  replace Ra := hide (Ra.out.below b8 (Nat.le_refl _))
  replace Rb := hide (Rb.out.below b8 (Nat.le_refl _))
  replace Rc := hide (Rc.out.below b8 (Nat.le_refl _))
  clear own8 b8 qd3 Ro3
  go_wp2_with fail
  refine (HAnd.out _ _ _ _ _ Ra.out Rb.out Sa.out Sb.out).mono ?_
  rintro e W9 ⟨v9, rfl, own9, b9⟩
  have Ld4 : Hid ((Q.andL a b).length ≤ 1048576) := by have h1 := La.out; have h2 := Lb.out; have := Q.andL_len a b; exact (show _ ≤ _ by omega)
  generalize qd4 : Q.andL a b = d4 at own9 Ld4
  have Qd4 := hide qd4
  have Sd4 := hide (show Short d4 by have := Ld4.out; unfold Short; omega)
  have Rd4 := hide own9.row
  replace hB := hide (Below.next hB.out b9)
  obtain ⟨a9, c9, hv⟩ := own9.shape
  subst hv
  replace Ra := hide (Ra.out.below b9 (Nat.le_refl _))
  replace Rb := hide (Rb.out.below b9 (Nat.le_refl _))
  replace Rc := hide (Rc.out.below b9 (Nat.le_refl _))
  replace Rd3 := hide (Rd3.out.below b9 (Nat.le_refl _))
  clear own9 b9 qd4
  go_wp2_with fail
  refine (HAnd.out _ _ _ _ _ Ra.out Rc.out Sa.out Sc.out).mono ?_
  rintro e W10 ⟨v10, rfl, own10, b10⟩
  have Ld5 : Hid ((Q.andL a c).length ≤ 1048576) := by have h1 := La.out; have h2 := Lc.out; have := Q.andL_len a c; exact (show _ ≤ _ by omega)
  generalize qd5 : Q.andL a c = d5 at own10 Ld5
  have Qd5 := hide qd5
  have Sd5 := hide (show Short d5 by have := Ld5.out; unfold Short; omega)
  have Rd5 := hide own10.row
  replace hB := hide (Below.next hB.out b10)
  obtain ⟨a10, c10, hv⟩ := own10.shape
  subst hv
  replace Ra := hide (Ra.out.below b10 (Nat.le_refl _))
  replace Rb := hide (Rb.out.below b10 (Nat.le_refl _))
  replace Rc := hide (Rc.out.below b10 (Nat.le_refl _))
  replace Rd3 := hide (Rd3.out.below b10 (Nat.le_refl _))
  replace Rd4 := hide (Rd4.out.below b10 (Nat.le_refl _))
  clear own10 b10 qd5
  go_wp2_with fail
  refine (HOr.out _ _ _ _ _ Rd4.out Rd5.out Sd4.out Sd5.out).mono ?_
  rintro e W11 ⟨v11, rfl, own11, b11⟩
  have Lo4 : Hid ((Q.orL d4 d5).length ≤ 2097152) := by have h1 := Ld4.out; have h2 := Ld5.out; have := Q.orL_len d4 d5; exact (show _ ≤ _ by omega)
  generalize qo4 : Q.orL d4 d5 = o4 at own11 Lo4
  have Qo4 := hide qo4
  have So4 := hide (show Short o4 by have := Lo4.out; unfold Short; omega)
  have Ro4 := hide own11.row
  replace hB := hide (Below.next hB.out b11)
  obtain ⟨a11, c11, hv⟩ := own11.shape
  subst hv
  replace Ra := hide (Ra.out.below b11 (Nat.le_refl _))
  replace Rb := hide (Rb.out.below b11 (Nat.le_refl _))
  replace Rc := hide (Rc.out.below b11 (Nat.le_refl _))
  replace Rd3 := hide (Rd3.out.below b11 (Nat.le_refl _))
  clear own11 b11 qo4 Rd4 Rd5
  go_wp2_with fail
  have E12 : d3 = o4 := by rw [← Qd3.out, ← Qo3.out, ← Qo4.out, ← Qd4.out, ← Qd5.out]; exact eqC ..
  refine (HEq.out _ _ _ _ _ Rd3.out Ro4.out E12).mono ?_
  rintro e W12 ⟨rfl, b12⟩
  replace hB := hide (Below.next hB.out b12)
  replace Ra := hide (Ra.out.below b12 (Nat.le_refl _))
  replace Rb := hide (Rb.out.below b12 (Nat.le_refl _))
  replace Rc := hide (Rc.out.below b12 (Nat.le_refl _))
  clear b12 E12 Rd3 Ro4 Sd3 Ld3 Qd3 So4 Lo4 Qo4
  go_wp2_with fail
  refine (HAnd.out _ _ _ _ _ Rb.out Rc.out Sb.out Sc.out).mono ?_
  rintro e W13 ⟨v13, rfl, own13, b13⟩
  have Ld6 : Hid ((Q.andL b c).length ≤ 1048576) := by have h1 := Lb.out; have h2 := Lc.out; have := Q.andL_len b c; exact (show _ ≤ _ by omega)
  generalize qd6 : Q.andL b c = d6 at own13 Ld6
  have Qd6 := hide qd6
  have Sd6 := hide (show Short d6 by have := Ld6.out; unfold Short; omega)
  have Rd6 := hide own13.row
  replace hB := hide (Below.next hB.out b13)
  obtain ⟨a13, c13, hv⟩ := own13.shape
  subst hv
  replace Ra := hide (Ra.out.below b13 (Nat.le_refl _))
  replace Rb := hide (Rb.out.below b13 (Nat.le_refl _))
  replace Rc := hide (Rc.out.below b13 (Nat.le_refl _))
  clear own13 b13 qd6
  go_wp2_with fail
  refine (HOr.out _ _ _ _ _ Ra.out Rd6.out Sa.out Sd6.out).mono ?_
  rintro e W14 ⟨v14, rfl, own14, b14⟩
  have Lo5 : Hid ((Q.orL a d6).length ≤ 2097152) := by have h1 := La.out; have h2 := Ld6.out; have := Q.orL_len a d6; exact (show _ ≤ _ by omega)
  generalize qo5 : Q.orL a d6 = o5 at own14 Lo5
  have Qo5 := hide qo5
  have So5 := hide (show Short o5 by have := Lo5.out; unfold Short; omega)
  have Ro5 := hide own14.row
  replace hB := hide (Below.next hB.out b14)
  obtain ⟨a14, c14, hv⟩ := own14.shape
  subst hv
  replace Ra := hide (Ra.out.below b14 (Nat.le_refl _))
  replace Rb := hide (Rb.out.below b14 (Nat.le_refl _))
  replace Rc := hide (Rc.out.below b14 (Nat.le_refl _))
  clear own14 b14 qo5 Rd6
  go_wp2_with fail
  refine (HOr.out _ _ _ _ _ Ra.out Rb.out Sa.out Sb.out).mono ?_
  rintro e W15 ⟨v15, rfl, own15, b15⟩
  have Lo6 : Hid ((Q.orL a b).length ≤ 2097152) := by have h1 := La.out; have h2 := Lb.out; have := Q.orL_len a b; exact (show _ ≤ _ by omega)
  generalize qo6 : Q.orL a b = o6 at own15 Lo6
  have Qo6 := hide qo6
  have So6 := hide (show Short o6 by have := Lo6.out; unfold Short; omega)
  have Ro6 := hide own15.row
  replace hB := hide (Below.next hB.out b15)
  obtain ⟨a15, c15, hv⟩ := own15.shape
  subst hv
  replace Ra := hide (Ra.out.below b15 (Nat.le_refl _))
  replace Rb := hide (Rb.out.below b15 (Nat.le_refl _))
  replace Rc := hide (Rc.out.below b15 (Nat.le_refl _))
  replace Ro5 := hide (Ro5.out.below b15 (Nat.le_refl _))
  clear own15 b15 qo6
  go_wp2_with fail
  refine (HOr.out _ _ _ _ _ Ra.out Rc.out Sa.out Sc.out).mono ?_
  rintro e W16 ⟨v16, rfl, own16, b16⟩
  have Lo7 : Hid ((Q.orL a c).length ≤ 2097152) := by have h1 := La.out; have h2 := Lc.out; have := Q.orL_len a c; exact (show _ ≤ _ by omega)
  generalize qo7 : Q.orL a c = o7 at own16 Lo7
  have Qo7 := hide qo7
  have So7 := hide (show Short o7 by have := Lo7.out; unfold Short; omega)
  have Ro7 := hide own16.row
  replace hB := hide (Below.next hB.out b16)
  obtain ⟨a16, c16, hv⟩ := own16.shape
  subst hv
  replace Ra := hide (Ra.out.below b16 (Nat.le_refl _))
  replace Rb := hide (Rb.out.below b16 (Nat.le_refl _))
  replace Ro5 := hide (Ro5.out.below b16 (Nat.le_refl _))
  replace Ro6 := hide (Ro6.out.below b16 (Nat.le_refl _))
  clear own16 b16 qo7 Rc
  go_wp2_with fail
  refine (HAnd.out _ _ _ _ _ Ro6.out Ro7.out So6.out So7.out).mono ?_
  rintro e W17 ⟨v17, rfl, own17, b17⟩
  have Ld7 : Hid ((Q.andL o6 o7).length ≤ 2097152) := by have h1 := Lo6.out; have h2 := Lo7.out; have := Q.andL_len o6 o7; exact (show _ ≤ _ by omega)
  generalize qd7 : Q.andL o6 o7 = d7 at own17 Ld7
  have Qd7 := hide qd7
  have Sd7 := hide (show Short d7 by have := Ld7.out; unfold Short; omega)
  have Rd7 := hide own17.row
  replace hB := hide (Below.next hB.out b17)
  obtain ⟨a17, c17, hv⟩ := own17.shape
  subst hv
  replace Ra := hide (Ra.out.below b17 (Nat.le_refl _))
  replace Rb := hide (Rb.out.below b17 (Nat.le_refl _))
  replace Ro5 := hide (Ro5.out.below b17 (Nat.le_refl _))
  clear own17 b17 qd7 Ro6 Ro7
  go_wp2_with fail
  have E18 : o5 = d7 := by rw [← Qo5.out, ← Qd6.out, ← Qd7.out, ← Qo6.out, ← Qo7.out]; exact eqD ..
  refine (HEq.out _ _ _ _ _ Ro5.out Rd7.out E18).mono ?_
  rintro e W18 ⟨rfl, b18⟩
  replace hB := hide (Below.next hB.out b18)
  replace Ra := hide (Ra.out.below b18 (Nat.le_refl _))
  replace Rb := hide (Rb.out.below b18 (Nat.le_refl _))
  clear b18 E18 Ro5 Rd7 So5 Lo5 Qo5 Sd7 Ld7 Qd7
  go_wp2_with fail
  refine (HOr.out _ _ _ _ _ Ra.out Rb.out Sa.out Sb.out).mono ?_
  rintro e W19 ⟨v19, rfl, own19, b19⟩
  have Lo8 : Hid ((Q.orL a b).length ≤ 2097152) := by have h1 := La.out; have h2 := Lb.out; have := Q.orL_len a b; exact (show _ ≤ _ by omega)
  generalize qo8 : Q.orL a b = o8 at own19 Lo8
  have Qo8 := hide qo8
  have So8 := hide (show Short o8 by have := Lo8.out; unfold Short; omega)
  have Ro8 := hide own19.row
  replace hB := hide (Below.next hB.out b19)
  obtain ⟨a19, c19, hv⟩ := own19.shape
  subst hv
  replace Ra := hide (Ra.out.below b19 (Nat.le_refl _))
  replace Rb := hide (Rb.out.below b19 (Nat.le_refl _))
  clear own19 b19 qo8
  go_wp2_with fail
  refine (HAnd.out _ _ _ _ _ Ra.out Ro8.out Sa.out So8.out).mono ?_
  rintro e W20 ⟨v20, rfl, own20, b20⟩
  have Ld8 : Hid ((Q.andL a o8).length ≤ 1048576) := by have h1 := La.out; have h2 := Lo8.out; have := Q.andL_len a o8; exact (show _ ≤ _ by omega)
  generalize qd8 : Q.andL a o8 = d8 at own20 Ld8
  have Qd8 := hide qd8
  have Sd8 := hide (show Short d8 by have := Ld8.out; unfold Short; omega)
  have Rd8 := hide own20.row
  replace hB := hide (Below.next hB.out b20)
  obtain ⟨a20, c20, hv⟩ := own20.shape
  subst hv
  replace Ra := hide (Ra.out.below b20 (Nat.le_refl _))
  replace Rb := hide (Rb.out.below b20 (Nat.le_refl _))
  clear own20 b20 qd8 Ro8
  go_wp2_with fail
  refine (HOr.out _ _ _ _ _ Ra.out (rowK_nil .i64 _) Sa.out SNIL.out).mono ?_
  rintro e W21 ⟨v21, rfl, own21, b21⟩
  have Lo9 : Hid ((Q.orL a []).length ≤ 1048576) := by have h1 := La.out; have h2 := LNIL.out; have := Q.orL_len a []; exact (show _ ≤ _ by omega)
  generalize qo9 : Q.orL a [] = o9 at own21 Lo9
  have Qo9 := hide qo9
  have So9 := hide (show Short o9 by have := Lo9.out; unfold Short; omega)
  have Ro9 := hide own21.row
  replace hB := hide (Below.next hB.out b21)
  obtain ⟨a21, c21, hv⟩ := own21.shape
  subst hv
  replace Ra := hide (Ra.out.below b21 (Nat.le_refl _))
  replace Rb := hide (Rb.out.below b21 (Nat.le_refl _))
  replace Rd8 := hide (Rd8.out.below b21 (Nat.le_refl _))
  clear own21 b21 qo9
  go_wp2_with fail
  have E22 : d8 = o9 := by rw [← Qd8.out, ← Qo8.out, ← Qo9.out]; exact eqE ..
  refine (HEq.out _ _ _ _ _ Rd8.out Ro9.out E22).mono ?_
  rintro e W22 ⟨rfl, b22⟩
  replace hB := hide (Below.next hB.out b22)
  replace Ra := hide (Ra.out.below b22 (Nat.le_refl _))
  replace Rb := hide (Rb.out.below b22 (Nat.le_refl _))
  clear b22 E22 Rd8 Ro9 Sd8 Ld8 Qd8 So9 Lo9 Qo9
  go_wp2_with fail
  refine (HAnd.out _ _ _ _ _ Ra.out Rb.out Sa.out Sb.out).mono ?_
  rintro e W23 ⟨v23, rfl, own23, b23⟩
  have Ld9 : Hid ((Q.andL a b).length ≤ 1048576) := by have h1 := La.out; have h2 := Lb.out; have := Q.andL_len a b; exact (show _ ≤ _ by omega)
  generalize qd9 : Q.andL a b = d9 at own23 Ld9
  have Qd9 := hide qd9
  have Sd9 := hide (show Short d9 by have := Ld9.out; unfold Short; omega)
  have Rd9 := hide own23.row
  replace hB := hide (Below.next hB.out b23)
  obtain ⟨a23, c23, hv⟩ := own23.shape
  subst hv
  replace Ra := hide (Ra.out.below b23 (Nat.le_refl _))
  clear own23 b23 qd9 Rb
  go_wp2_with fail
  refine (HOr.out _ _ _ _ _ Ra.out Rd9.out Sa.out Sd9.out).mono ?_
  rintro e W24 ⟨v24, rfl, own24, b24⟩
  have Lo10 : Hid ((Q.orL a d9).length ≤ 2097152) := by have h1 := La.out; have h2 := Ld9.out; have := Q.orL_len a d9; exact (show _ ≤ _ by omega)
  generalize qo10 : Q.orL a d9 = o10 at own24 Lo10
  have Qo10 := hide qo10
  have So10 := hide (show Short o10 by have := Lo10.out; unfold Short; omega)
  have Ro10 := hide own24.row
  replace hB := hide (Below.next hB.out b24)
  obtain ⟨a24, c24, hv⟩ := own24.shape
  subst hv
  replace Ra := hide (Ra.out.below b24 (Nat.le_refl _))
  clear own24 b24 qo10 Rd9
  go_wp2_with fail
  refine (HAnd.out _ _ _ _ _ Ra.out Ra.out Sa.out Sa.out).mono ?_
  rintro e W25 ⟨v25, rfl, own25, b25⟩
  have Ld10 : Hid ((Q.andL a a).length ≤ 1048576) := by have h1 := La.out; have h2 := La.out; have := Q.andL_len a a; exact (show _ ≤ _ by omega)
  generalize qd10 : Q.andL a a = d10 at own25 Ld10
  have Qd10 := hide qd10
  have Sd10 := hide (show Short d10 by have := Ld10.out; unfold Short; omega)
  have Rd10 := hide own25.row
  replace hB := hide (Below.next hB.out b25)
  obtain ⟨a25, c25, hv⟩ := own25.shape
  subst hv
  replace Ro10 := hide (Ro10.out.below b25 (Nat.le_refl _))
  clear own25 b25 qd10 Ra
  go_wp2_with fail
  have E26 : o10 = d10 := by rw [← Qo10.out, ← Qd9.out, ← Qd10.out]; exact eqF ..
  refine (HEq.out _ _ _ _ _ Ro10.out Rd10.out E26).mono ?_
  rintro e W26 ⟨rfl, b26⟩
  replace hB := hide (Below.next hB.out b26)
  clear b26 E26 Ro10 Rd10 So10 Lo10 Qo10 Sd10 Ld10 Qd10
  go_wp2
  go_ret
  exact ⟨rfl, hB.out⟩
theorem walk_IndexBoole (va : Value) (a : List Int) (vb : Value) (b : List Int) (vc : Value) (c : List Int) (w : World)
    (ha : RowK .i64 w va a) (wa : ∀ x ∈ a, -9223372036854775808 ≤ x ∧ x ≤ 9223372036854775807) (la : a.length * 8 ≤ 140737488351232)
    (hb : RowK .i64 w vb b) (wb : ∀ x ∈ b, -9223372036854775808 ≤ x ∧ x ≤ 9223372036854775807) (lb : b.length * 8 ≤ 140737488351232)
    (hc : RowK .i64 w vc c) (wc : ∀ x ∈ c, -9223372036854775808 ≤ x ∧ x ≤ 9223372036854775807) (lc : c.length * 8 ≤ 140737488351232)
    (ka : a.length ≤ 1048576) (kb : b.length ≤ 1048576) (kc : c.length ≤ 1048576) :
    Calls Try.prog 7 #[va, vb, vc] w fun e w' => e = .returned (.bool true) ∧ Below w.heap.size w w' :=
  boole_any va vb vc a b c w ha hb hc ka kb kc
set_option maxRecDepth 100000 in
theorem lifted_IndexBoole (os : Os) (started : os.Started) (H : Type) (enc : TypeId × Value → H) (F : Stop.Interp) :
    ReturnsInHanded {} Try.checked os 7 .any ((Rows.OpenSpec.upto Rows.indexBooleSpec).pre6 enc Try.prog Try.f7 Rows.indexBooleUptoRow.domain false) (((Rows.OpenSpec.upto Rows.indexBooleSpec).at F).post enc Try.prog Try.f7 false true false false) := by
  refine returnsInHanded_of_cond_sized (C := Try.checked) (s := Rows.OpenSpec.upto Rows.indexBooleSpec) (k := Rows.uptoSmall) rfl own started (by kernel_rfl) Try.func7
    (OpenSpec.witness (enc := enc) (C := Try.checked) (s := Rows.OpenSpec.upto Rows.indexBooleSpec) (k := Rows.uptoSmall) rfl false ⟨#[], #[.slice none 0 0, .slice none 0 0, .slice none 0 0], []⟩ 8 (by kernel_rfl) (by kernel_rfl) (by kernel_rfl)
      (x := ([.nil, .nil, .nil], [], [])) (by kernel_rfl) rfl (by kernel_rfl)) ?_
  intro W base args ds gs before hval0 hW hcnd hk0 hsz0  _
  have hsz : (DataW.weightsEach Try.prog (Try.f7.params.toList ++ Rows.indexBooleSpec.plain.varTypes Try.prog) (ds ++ gs)).all (· ≤ reachBytes) = true := hsz0
  have hval : ∀ (j : Nat) t v, Try.f7.params[j]? = some t → args[j]? = some v → Value.okWide Try.prog W .any base t v := hval0
  have hW' := hW
  obtain ⟨p, q, hA0, hV, rfl, hfz, hnd⟩ := hW
  have hA : DataW.TrodAll enc Try.prog W 0 (fun _ => true) true Try.f7.params.toList args.toList ds p := hA0
  rw [Try.params7] at hA hval hsz
  obtain ⟨v0, vs0, d0, ds0, p0, q0, hargs, rfl, rfl, h0, r0⟩ := trodAll_cons hA
  obtain ⟨v1, vs1, d1, ds1, p1, q1, rfl, rfl, rfl, h1, r1⟩ := trodAll_cons r0
  obtain ⟨v2, vs2, d2, ds2, p2, q2, rfl, rfl, rfl, h2, r2⟩ := trodAll_cons r1
  obtain ⟨rfl, rfl, rfl⟩ := trodAll_nil r2
  obtain rfl : args = #[v0, v1, v2] := by cases args; simp_all
  obtain ⟨rfl, rfl⟩ := trodVars_none hV
  have k0 := h0
  have lt0 : ∀ x ∈ p0, x.block < W.heap.size := by obtain ⟨m, hm⟩ := k0; exact DataW.trod_lt m _ _ _ hm
  obtain ⟨s0, len0, cap0, rfl⟩ := okWide_slice Try.underlying37 (hval 0 37 v0 rfl rfl)
  obtain ⟨l0, row0, wf0, sh0⟩ := open_row Try.underlying37 Try.underlying3 cells3 h0
  have rc0 := row_reach hsz (j := 0) (t := 37) rfl rfl Try.underlying37 sh0
  rw [bytes3] at rc0
  have k1 := h1
  have lt1 : ∀ x ∈ p1, x.block < W.heap.size := by obtain ⟨m, hm⟩ := k1; exact DataW.trod_lt m _ _ _ hm
  obtain ⟨s1, len1, cap1, rfl⟩ := okWide_slice Try.underlying37 (hval 1 37 v1 rfl rfl)
  obtain ⟨l1, row1, wf1, sh1⟩ := open_row Try.underlying37 Try.underlying3 cells3 h1
  have rc1 := row_reach hsz (j := 1) (t := 37) rfl rfl Try.underlying37 sh1
  rw [bytes3] at rc1
  have k2 := h2
  have lt2 : ∀ x ∈ p2, x.block < W.heap.size := by obtain ⟨m, hm⟩ := k2; exact DataW.trod_lt m _ _ _ hm
  obtain ⟨s2, len2, cap2, rfl⟩ := okWide_slice Try.underlying37 (hval 2 37 v2 rfl rfl)
  obtain ⟨l2, row2, wf2, sh2⟩ := open_row Try.underlying37 Try.underlying3 cells3 h2
  have rc2 := row_reach hsz (j := 2) (t := 37) rfl rfl Try.underlying37 sh2
  rw [bytes3] at rc2
  clear hA0 hval0
  have bk0 := bulk_row (l := l0) hk0 (by simp) sh0
  have bk1 := bulk_row (l := l1) hk0 (by simp) sh1
  have bk2 := bulk_row (l := l2) hk0 (by simp) sh2
  refine (walk_IndexBoole (.slice s0 len0 cap0) l0 (.slice s1 len1 cap1) l1 (.slice s2 len2 cap2) l2 W row0 (fun x hx => bounds_i64 (wf0 x hx)) rc0 row1 (fun x hx => bounds_i64 (wf1 x hx)) rc1 row2 (fun x hx => bounds_i64 (wf2 x hx)) rc2 bk0 bk1 bk2).mono fun e W' ⟨he, bel⟩ => ?_
  subst he
  exact ⟨_, rfl, _, _, _, [], _, [], hW', trodAll_mk1 (shut_bool Try.underlying4 _), (trodAll_cons_mk (Below.trod laidOut (by kernel_rfl) (of_decide_eq_true (by kernel_rfl)) k0 bel lt0) (trodAll_cons_mk (Below.trod laidOut (by kernel_rfl) (of_decide_eq_true (by kernel_rfl)) k1 bel lt1) (trodAll_cons_mk (Below.trod laidOut (by kernel_rfl) (of_decide_eq_true (by kernel_rfl)) k2 bel lt2) trodAll_mk0))), rfl, bel.frame _, fun h => by cases h⟩

theorem proved_IndexBoole : Rows.IndexBooleUptoSaid :=
  OpenClaim.holds_of_cond 7 Try.f7 rfl rfl rfl rfl rfl rfl rfl ⟨rfl, rfl, rfl, rfl, rfl⟩ rfl rfl rfl rfl rfl (by kernel_rfl) Try.func7 (by kernel_rfl)
    (of_decide_eq_true (by kernel_rfl)) (by unfold Func.isWrapper; first | (rw [if_pos (by decide +kernel)]; kernel_rfl) | (rw [if_neg (by decide +kernel)]; exact ⟨rfl, rfl⟩))
    (fun os started H enc _ F => lifted_IndexBoole os started H enc F)
#print axioms proved_IndexBoole
end Go.Proofs.Ytlghnnmgbdjgoaa
