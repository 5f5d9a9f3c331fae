/- Who asks for more finds what is found for each of both; of two that exclude each other nothing: for whatever labels and matches the statement's function answers true. No condition. -/
import Derived.Test.YtlghnnmgbdjgoaaKitLL
import Derived.Test.YtlghnnmgbdjgoaaSetM
import Derived.Test.YtlghnnmgbdjgoaaSetL
import Derived.Test.YtlghnnmgbdjgoaaBoxM
import Derived.HandedShaped
namespace Go.Proofs.Ytlghnnmgbdjgoaa
open Go.RowKit Go.ChangeShapes Go.WideShapes Go.ChangeAt Go.Joins
set_option linter.unusedVariables false
theorem eqP_some (b : Nat) (w : World) : (binOp BinOp.eql 24 (.pointer (some ⟨b, 0, none⟩)) (.pointer none)).run Try.prog w = .ok (.bool false) w := by kernel_rfl
theorem eqP_none (w : World) : (binOp BinOp.eql 24 (.pointer none) (.pointer none)).run Try.prog w = .ok (.bool true) w := by kernel_rfl
theorem BoxM.unfrozen {w : World} {g : Nat} {x : P.Mt} (h : BoxM w g x) (j : Nat) : w.frozen? ⟨g, j, none⟩ = false := by
  unfold BoxM at h
  simp [World.frozen?, h]
theorem BoxM.set {w : World} {g : Nat} {x : P.Mt} (h : BoxM w g x) (k : Int) : BoxM (w.setCell ⟨g, 0, none⟩ (.int .i64 k)) g (k, x.2.1, x.2.2) := by
  unfold BoxM at h ⊢
  rw [heap_setCell_same w g 0 _ _ _ h]
  simp
theorem rowsM_two (w : World) (v v2 : Value) (l l2 : List P.Mt) (t : TypeId) (h : RowM w v l) (h2 : RowM w v2 l2) : RowsM (w.alloc (.cells #[v, v2] t)) w.heap.size [(v, l), (v2, l2)] := by
  intro j x hx
  match j, hx with
  | 0, hx => simp at hx; subst hx; exact ⟨by simp, h.alloc _⟩
  | 1, hx => simp at hx; subst hx; exact ⟨by simp, h2.alloc _⟩
namespace P
theorem findL_cat (L : List (List Lb)) (m n : List Mt) : Q.andL (findL L m) (findL L n) = findL L (m ++ n) := Q.asc_ext (Q.andL_asc _ _) (findL_asc _ _) fun i => by
  rw [Q.mem_andL, mem_findL, mem_findL, mem_findL, List.all_append, Bool.and_eq_true]
  constructor
  · rintro ⟨⟨h1, h2⟩, _, h3⟩; exact ⟨h1, h2, h3⟩
  · rintro ⟨h1, h2, h3⟩; exact ⟨⟨h1, h2⟩, h1, h3⟩
theorem fit1_not (l : List Lb) (n v : ByteArray) : fit1 l (2, n, v) = !fit1 l (1, n, v) := rfl
theorem findL_not (L : List (List Lb)) (n v : ByteArray) : findL L [(2, n, v)] = Q.notL L.length (findL L [(1, n, v)]) := Q.asc_ext (findL_asc _ _) (Q.notL_asc _ _) fun i => by
  rw [Q.mem_notL, mem_findL, mem_findL]
  simp only [List.all_cons, List.all_nil, Bool.and_true]
  rw [fit1_not]
  cases fit1 (L.getD i.toNat []) (1, n, v) <;> simp
theorem and_not (k : Nat) (p : List Int) : Q.andL p (Q.notL k p) = [] := Q.asc_ext (Q.andL_asc _ _) List.Pairwise.nil fun i => by
  rw [Q.mem_andL, Q.mem_notL]
  constructor
  · rintro ⟨h1, _, h2⟩; exact absurd h1 h2
  · intro h; cases h
theorem chkM_kind (n v : ByteArray) : chkM [(2, n, v)] = chkM [(1, n, v)] := by
  unfold chkM
  rw [if_neg (by simp), if_neg (by simp)]
  simp only [chkMF]
  rw [if_neg (show ¬ ¬ Kd 2 from fun h => h (by decide)), if_neg (show ¬ ¬ Kd 1 from fun h => h (by decide))]
end P
theorem below_box {w W : World} {ob j : Nat} {u : Value} (h : Below w.heap.size w W) (hob : w.heap.size ≤ ob) : Below w.heap.size w (W.setCell ⟨ob, j, none⟩ u) :=
  ⟨h.os, h.tape, h.output, by simpa using h.size, fun k hk => (heap_setCell_other W ⟨ob, j, none⟩ k u (by simp; omega)).trans (h.block k hk)⟩
set_option maxRecDepth 100000 in
set_option maxHeartbeats 4000000 in
theorem walk_IndexMore (v0 : Value) (L : List (List P.Lb)) (v1 : Value) (m : List P.Mt) (v2 : Value) (n : List P.Mt) (x : P.Mt) (w : World) (r0 : RowsL w v0 L) (k0 : ∀ l ∈ L, LbOk l) (rc0 : L.length * 24 ≤ 140737488351232) (r1 : RowM w v1 m) (k1 : MtOk m) (rc1 : m.length * 40 ≤ 140737488351232)
    (r2 : RowM w v2 n) (k2 : MtOk n) (rc2 : n.length * 40 ≤ 140737488351232) (kx : MtOk1 x) (mx : Int) (hmx : w.cell? ⟨0, 0, none⟩ = some (.int .i64 mx)) :
    Calls Try.prog 6 #[v0, v1, v2, .agg #[.int .i64 x.1, .string x.2.1, .string x.2.2]] w fun e w' => e = .returned (.bool true) ∧ Below w.heap.size w w' := by
  have HI := hide (fun W => indexes_any W)
  have HN := hide (fun (W : World) (hb : Below w.heap.size w W) => new_lo W v0 L (r0.below hb (Nat.le_refl _)) k0)
  have HF := hide (fun (W : World) (hb : Below w.heap.size w W) (bx : Nat) (hi : Ix W bx L) (vm : Value) (q : List P.Mt) (hr : RowM W vm q) (hq : MtOk q) => find_any W bx L hi vm q hr hq mx (keep_cell hmx hb))
  have HR1 := hide (fun (W : World) (hb : Below w.heap.size w W) => r1.below hb (Nat.le_refl _))
  have HR2 := hide (fun (W : World) (hb : Below w.heap.size w W) => r2.below hb (Nat.le_refl _))
  have HOK : Hid (MtOk (m ++ n)) := fun y hy => by rcases List.mem_append.1 hy with h | h; exact k1 y h; exact k2 y h
  have HEs := hide eqP_some
  have HEn := hide eqP_none
  obtain ⟨a0, c0, rfl, ⟨hlc0, hm0⟩, _⟩ := r0
  obtain ⟨a1, c1, rfl, ⟨hlc1, hm1, _⟩, _⟩ := r1
  obtain ⟨a2, c2, rfl, ⟨hlc2, hm2, _⟩, _⟩ := r2
  unfold maxLen at hm0 hm1 hm2
  have HX0 := hide (BoxM.new w x)
  have hB0 : Below w.heap.size w (w.alloc (.cells #[.int .i64 x.1, .string x.2.1, .string x.2.2] 56)) := (Below.refl _ w).alloc (Nat.le_refl _) _
  have HZ0 : Hid (w.heap.size < (w.alloc (.cells #[.int .i64 x.1, .string x.2.1, .string x.2.2] 56)).heap.size) := by show _ < _; simp
  obtain ⟨xk, xn, xv⟩ := x
  clear hmx
  go_enter Try.func6, Try.ntmps6
  go_wp2_with fail
  refine (HI.out _).mono ?_
  rintro e w1 ⟨rfl, h1⟩
  have hB1 := Below.next hB0 h1
  have HX1 := hide (HX0.out.next h1)
  have HZ1 : Hid (w.heap.size < w1.heap.size) := Nat.lt_of_lt_of_le HZ0.out h1.size
  clear hB0 h1 HX0 HI HZ0
  go_wp2_with fail
  refine (HN.out _ hB1).mono ?_
  rintro e w2 ⟨hne, hok, h2⟩
  have hB2 := Below.next hB1 h2
  have HX2 := hide (HX1.out.next h2)
  by_cases hz : P.newE L = 0
  · obtain ⟨bx, rfl, hix⟩ := hok hz
    have HIX := hide hix
    have hP := HEs.out bx w2
    clear hne hok hix hz HN HEn h2 HX1 hB1
    go_wp2_with fail
    refine (HF.out _ hB2 bx HIX.out.ix _ m (HR1.out _ hB2) k1).mono ?_
    rintro e w3 ⟨va, rfl, hoa, h3⟩
    have hB3 := Below.next hB2 h3
    have HX3 := hide (HX2.out.next h3)
    have HI3 := hide (HIX.out.below h3)
    have HOA := hide (OwnK.row hoa)
    obtain ⟨aa, ca, rfl⟩ := OwnK.shape hoa
    clear hP HEs h3 hoa hB2 HX2 HIX
    go_wp2_with fail
    refine (HF.out _ hB3 bx HI3.out.ix _ n (HR2.out _ hB3) k2).mono ?_
    rintro e w4 ⟨vb, rfl, hob, h4⟩
    have hB4 := Below.next hB3 h4
    have HX4 := hide (HX3.out.next h4)
    have HI4 := hide (HI3.out.below h4)
    have HOA4 := hide (HOA.out.below h4 (Nat.le_refl _))
    have HOB := hide (OwnK.row hob)
    obtain ⟨ab, cb, rfl⟩ := OwnK.shape hob
    have ba : Below w4.heap.size w4 (w4.alloc (.cells #[.slice a1 m.length c1, .slice a2 n.length c2] 23)) := (Below.refl _ w4).alloc (Nat.le_refl _) _
    have HCAT := hide (concatM_any w4.heap.size 2 2 [(.slice a1 m.length c1, m), (.slice a2 n.length c2, n)] _ rfl (by decide) (by simp) (rowsM_two w4 _ _ m n 23 (HR1.out _ hB4) (HR2.out _ hB4)) (by simp [catM]; omega))
    rw [show catM [(Value.slice a1 m.length c1, m), (Value.slice a2 n.length c2, n)] = m ++ n by simp [catM]] at HCAT
    generalize hmn : m ++ n = mn at HCAT HOK
    have HMN := hide hmn
    clear hmn
    have HBA := hide ba
    clear h4 hob hB3 HX3 HI3 HOA ba
    go_wp2_with fail
    refine HCAT.out.mono ?_
    rintro e w5 ⟨vc, rfl, hoc, h5⟩
    have HB45 := hide (Below.next HBA.out h5)
    have hB5 := Below.next hB4 HB45.out
    have HX5 := hide (HX4.out.next HB45.out)
    have HI5 := hide (HI4.out.below HB45.out)
    have HOA5 := hide (HOA4.out.below HB45.out (Nat.le_refl _))
    have HOB5 := hide (HOB.out.below HB45.out (Nat.le_refl _))
    have HOC := hide hoc.row
    obtain ⟨ac, cc, rfl, _⟩ := hoc.row
    clear h5 hoc HCAT HBA HB45 HX4 HI4 HOA4 HOB hB4
    go_wp2_with fail
    refine (HF.out _ hB5 bx HI5.out.ix _ mn HOC.out HOK.out).mono ?_
    rintro e w6 ⟨vd, rfl, hod, h6⟩
    have hB6 := Below.next hB5 h6
    have HX6 := hide (HX5.out.next h6)
    have HI6 := hide (HI5.out.below h6)
    have HOA6 := hide (HOA5.out.below h6 (Nat.le_refl _))
    have HOB6 := hide (HOB5.out.below h6 (Nat.le_refl _))
    have HOD := hide (OwnK.row hod)
    obtain ⟨ad, cd, rfl⟩ := OwnK.shape hod
    clear h6 hod HOC HX5 HI5 HOA5 HOB5 hB5 HOK
    have HGD := hide (good_any _ _ _ (row_three w6 (P.chkM m) (P.chkM n) (P.chkM mn) 25))
    have HAZ : Hid (allZ [P.chkM m, P.chkM n, P.chkM mn] = true → Q.andL (fndL L m) (fndL L n) = fndL L mn) := fun h => by
      obtain ⟨e1, e2, e3⟩ := allZ_three h
      unfold fndL
      rw [if_pos e1, if_pos e2, if_pos e3, P.findL_cat, HMN.out]
    have HLA : Hid ((fndL L m).length ≤ 200 ∧ (fndL L n).length ≤ 200) := by
      have hh : ∀ q, (fndL L q).length ≤ 200 := fun q => by
        unfold fndL
        split
        · exact Nat.le_trans (P.findL_len L q) HI6.out.len
        · simp
      exact ⟨hh m, hh n⟩
    have HAN := hide (fun (W : World) (hb : Below w6.heap.size w6 W) => and_any W _ _ (fndL L m) (fndL L n) (HOA6.out.below hb (Nat.le_refl _)) (HOB6.out.below hb (Nat.le_refl _)) (by have := HLA.out.1; omega) (by have := HLA.out.2; omega) (by have := Q.andL_len (fndL L m) (fndL L n); have := HLA.out.1; omega))
    have bg : Below w6.heap.size w6 (w6.alloc (.cells #[.int .i64 (P.chkM m), .int .i64 (P.chkM n), .int .i64 (P.chkM mn)] 25)) := (Below.refl _ w6).alloc (Nat.le_refl _) _
    have HBG := hide bg
    have HTAIL : Hid (∀ W, Below w6.heap.size w6 W → Below w.heap.size w W ∧ BoxM W w.heap.size (xk, xn, xv) ∧ IxL W w1.heap.size bx L) := fun W hb => ⟨Below.next hB6 hb, HX6.out.next hb, HI6.out.below hb⟩
    clear bg HOA6 HOB6 HX6 HI6 HMN HLA HR1 HR2
    generalize P.chkM m = e1 at *
    generalize P.chkM n = e2 at *
    generalize P.chkM mn = e3 at *
    generalize fndL L m = la at *
    generalize fndL L n = lb at *
    generalize fndL L mn = lc at *
    cases hal : allZ [e1, e2, e3] with
    | true =>
      rw [hal] at HGD
      have HEA := hide (HAZ.out hal)
      clear HAZ hal
      go_wp2_with fail
      refine HGD.out.mono ?_
      rintro e w7 ⟨rfl, rfl⟩
      generalize w6.alloc (.cells #[.int .i64 e1, .int .i64 e2, .int .i64 e3] 25) = w7 at HBG ⊢
      go_wp2_with fail
      refine (HAN.out _ HBG.out).mono ?_
      rintro e w8 ⟨v8, rfl, ho8, h8⟩
      have hb8 := Below.next HBG.out h8
      rw [show Q.andL la lb = lc from HEA.out] at ho8
      have HEQ := hide (equalI_any _ _ lc lc w8 (HOD.out.below hb8 (Nat.le_refl _)) (OwnK.row ho8))
      rw [show decide (lc = lc) = true from decide_eq_true rfl] at HEQ
      obtain ⟨a8, c8, rfl⟩ := OwnK.shape ho8
      clear ho8 h8 HAN HEA
      go_wp2_with fail
      refine HEQ.out.mono ?_
      rintro e w9 ⟨rfl, h9⟩
      obtain ⟨hB9, hX9, hI9⟩ := HTAIL.out w9 (Below.next hb8 h9)
      clear HEQ h9 hb8 HBG HTAIL HOD HGD
      have q0 := hX9.c0
      have q1 := hX9.c1
      have q2 := hX9.c2
      have f0 := hX9.unfrozen 0
      have bY : Below (w9.setCell ⟨w.heap.size, 0, none⟩ (.int .i64 1)).heap.size (w9.setCell ⟨w.heap.size, 0, none⟩ (.int .i64 1)) ((w9.setCell ⟨w.heap.size, 0, none⟩ (.int .i64 1)).alloc (.cells #[.int .i64 2, .string xn, .string xv] 56)) := (Below.refl _ _).alloc (Nat.le_refl _) _
      have HXa := hide ((hX9.set 1).next bY)
      have HYa : Hid (BoxM ((w9.setCell ⟨w.heap.size, 0, none⟩ (.int .i64 1)).alloc (.cells #[.int .i64 2, .string xn, .string xv] 56)) w9.heap.size (2, xn, xv)) := by
        have h := BoxM.new (w9.setCell ⟨w.heap.size, 0, none⟩ (.int .i64 1)) (2, xn, xv)
        rw [show (w9.setCell ⟨w.heap.size, 0, none⟩ (.int .i64 1)).heap.size = w9.heap.size by simp] at h
        exact h
      have hBa : Below w.heap.size w ((w9.setCell ⟨w.heap.size, 0, none⟩ (.int .i64 1)).alloc (.cells #[.int .i64 2, .string xn, .string xv] 56)) := Below.next (below_box hB9 (Nat.le_refl _)) bY
      have HIa := hide ((hI9.setCell w.heap.size 0 (.int .i64 1) HZ1.out).below bY)
      have hsz : ((w9.setCell ⟨w.heap.size, 0, none⟩ (.int .i64 1)).alloc (.cells #[.int .i64 2, .string xn, .string xv] 56)).heap.size = w9.heap.size + 1 := by simp
      have p0 := HXa.out.c0
      have p1 := HXa.out.c1
      have p2 := HXa.out.c2
      have HO1 : Hid (MtOk1 (1, xn, xv)) := ⟨⟨by simp only; omega, by simp only; omega⟩, kx.2.1, kx.2.2⟩
      have HO2 : Hid (MtOk1 (2, xn, xv)) := ⟨⟨by simp only; omega, by simp only; omega⟩, kx.2.1, kx.2.2⟩
      have bp : Below ((w9.setCell ⟨w.heap.size, 0, none⟩ (.int .i64 1)).alloc (.cells #[.int .i64 2, .string xn, .string xv] 56)).heap.size ((w9.setCell ⟨w.heap.size, 0, none⟩ (.int .i64 1)).alloc (.cells #[.int .i64 2, .string xn, .string xv] 56)) (((w9.setCell ⟨w.heap.size, 0, none⟩ (.int .i64 1)).alloc (.cells #[.int .i64 2, .string xn, .string xv] 56)).alloc (.cells #[.int .i64 1, .string xn, .string xv] 56)) := (Below.refl _ _).alloc (Nat.le_refl _) _
      have HF1 := hide (HF.out _ (Below.next hBa bp) bx (HIa.out.below bp).ix _ [(1, xn, xv)] (RowX.one mtC 3 ((w9.setCell ⟨w.heap.size, 0, none⟩ (.int .i64 1)).alloc (.cells #[.int .i64 2, .string xn, .string xv] 56)) (1, xn, xv) 56) (by intro y hy; simp at hy; subst hy; exact HO1.out))
      rw [hsz] at HF1
      have HBp := hide (Below.next hBa bp)
      have HYp := hide (HYa.out.next bp)
      have HIp := hide (HIa.out.below bp)
      simp only at q0 q1 q2 p0 p1 p2
      clear hX9 hI9 HXa HYa HIa hBa bY bp hB9 hsz
      go_wp2_with fail
      refine HF1.out.mono ?_
      rintro e w10 ⟨vp, rfl, hop, h10⟩
      have HB10 := hide (Below.next HBp.out h10)
      have HY10 := hide (HYp.out.next h10)
      have HI10 := hide (HIp.out.below h10)
      have HOP := hide (OwnK.row hop)
      obtain ⟨ap, cp, rfl⟩ := OwnK.shape hop
      have y0 := HY10.out.c0
      have y1 := HY10.out.c1
      have y2 := HY10.out.c2
      simp only at y0 y1 y2
      have bq : Below w10.heap.size w10 (w10.alloc (.cells #[.int .i64 2, .string xn, .string xv] 56)) := (Below.refl _ _).alloc (Nat.le_refl _) _
      have HF2 := hide (HF.out _ (Below.next HB10.out bq) bx (HI10.out.below bq).ix _ [(2, xn, xv)] (RowX.one mtC 3 w10 (2, xn, xv) 56) (by intro y hy; simp at hy; subst hy; exact HO2.out))
      have HBq := hide bq
      clear q0 q1 q2 p0 p1 p2 f0 HF1 HF hop h10 HBp HYp HIp bq
      generalize w9.heap.size = bz at *
      go_wp2_with fail
      refine HF2.out.mono ?_
      rintro e w11 ⟨vq, rfl, hoq, h11⟩
      have HB1011 := hide (Below.next HBq.out h11)
      have HB11 := hide (Below.next HB10.out HB1011.out)
      have HOP11 := hide (HOP.out.below HB1011.out (Nat.le_refl _))
      have HOQ := hide (OwnK.row hoq)
      obtain ⟨aq, cq, rfl⟩ := OwnK.shape hoq
      have HLN := hide HI10.out.len
      have HNT := hide (not_ok L.length _ (fndL L [(1, xn, xv)]) w11 HOP11.out (by have := HLN.out; omega))
      clear y0 y1 y2 HF2 hoq h11 HB10 HY10 HI10 HOP HBq HB1011
      have HCK := hide (P.chkM_kind xn xv)
      rw [show P.chkM [(2, xn, xv)] = P.chkM [(1, xn, xv)] from HCK.out]
      have HPP : Hid ((fndL L [(1, xn, xv)]).length ≤ 200 ∧ (fndL L [(2, xn, xv)]).length ≤ 200) := by
        have hh : ∀ q, (fndL L q).length ≤ 200 := fun q => by
          unfold fndL
          split
          · exact Nat.le_trans (P.findL_len L q) HLN.out
          · simp
        exact ⟨hh _, hh _⟩
      have HNO : Hid (P.chkM [(1, xn, xv)] = 0 → fndL L [(2, xn, xv)] = Q.notL L.length (fndL L [(1, xn, xv)])) := fun h => by
        unfold fndL
        rw [if_pos h, if_pos (HCK.out.trans h)]
        exact P.findL_not L xn xv
      generalize fndL L [(1, xn, xv)] = lp at *
      generalize fndL L [(2, xn, xv)] = lq at *
      generalize P.chkM [(1, xn, xv)] = c at *
      go_wp2_with fail
      refine HNT.out.mono ?_
      rintro e w12 ⟨vn, rfl, hon, h12⟩
      have HB12 := hide (Below.next HB11.out h12)
      by_cases hc : c = 0
      · have HQE := hide (HNO.out hc)
        rw [← show lq = Q.notL L.length lp from HQE.out] at hon
        have HEQ := hide (equalI_any _ _ lq lq w12 (HOQ.out.below h12 (Nat.le_refl _)) (OwnK.row hon))
        rw [show decide (lq = lq) = true from decide_eq_true rfl] at HEQ
        have HAN := hide (fun (W : World) (hb : Below w12.heap.size w12 W) => and_any W _ _ lp lq ((HOP11.out.below h12 (Nat.le_refl _)).below hb (Nat.le_refl _)) ((HOQ.out.below h12 (Nat.le_refl _)).below hb (Nat.le_refl _)) (by have := HPP.out.1; omega) (by have := HPP.out.2; omega) (by have := Q.andL_len lp lq; have := HPP.out.1; omega))
        rw [show Q.andL lp lq = [] by rw [HQE.out]; exact P.and_not _ _] at HAN
        obtain ⟨an, cn, rfl⟩ := OwnK.shape hon
        have hcc : (c == c) = true := by simp
        have hc0 : (c != 0) = false := by simp [hc]
        clear hon HNT HNO HQE hc HOP11 HOQ
        go_wp2_with (first
          | (go_at_call 18; refine HEQ.out.mono ?_; rintro e w13 ⟨rfl, h13⟩)
          | (go_at_call 23; refine (HAN.out _ h13).mono ?_; rintro e w14 ⟨v14, rfl, ho14, h14⟩; obtain ⟨a14, c14, rfl⟩ := OwnK.shape ho14))
        go_ret
        exact ⟨rfl, Below.next HB12.out (Below.next h13 h14)⟩
      · have hcc : (c == c) = true := by simp
        have hc0 : (c != 0) = true := by simp [hc]
        obtain ⟨an, cn, rfl⟩ := OwnK.shape hon
        clear hon HNT HNO hc HOP11 HOQ
        go_wp2
        go_ret
        exact ⟨rfl, HB12.out⟩
    | false =>
      rw [hal] at HGD
      clear HAZ hal HAN
      go_wp2_with fail
      refine HGD.out.mono ?_
      rintro e w7 ⟨rfl, rfl⟩
      obtain ⟨hB9, hX9, hI9⟩ := HTAIL.out _ HBG.out
      generalize w6.alloc (.cells #[.int .i64 e1, .int .i64 e2, .int .i64 e3] 25) = w9 at hB9 hX9 hI9 ⊢
      clear HBG HTAIL HOD HGD
      have q0 := hX9.c0
      have q1 := hX9.c1
      have q2 := hX9.c2
      have f0 := hX9.unfrozen 0
      have bY : Below (w9.setCell ⟨w.heap.size, 0, none⟩ (.int .i64 1)).heap.size (w9.setCell ⟨w.heap.size, 0, none⟩ (.int .i64 1)) ((w9.setCell ⟨w.heap.size, 0, none⟩ (.int .i64 1)).alloc (.cells #[.int .i64 2, .string xn, .string xv] 56)) := (Below.refl _ _).alloc (Nat.le_refl _) _
      have HXa := hide ((hX9.set 1).next bY)
      have HYa : Hid (BoxM ((w9.setCell ⟨w.heap.size, 0, none⟩ (.int .i64 1)).alloc (.cells #[.int .i64 2, .string xn, .string xv] 56)) w9.heap.size (2, xn, xv)) := by
        have h := BoxM.new (w9.setCell ⟨w.heap.size, 0, none⟩ (.int .i64 1)) (2, xn, xv)
        rw [show (w9.setCell ⟨w.heap.size, 0, none⟩ (.int .i64 1)).heap.size = w9.heap.size by simp] at h
        exact h
      have hBa : Below w.heap.size w ((w9.setCell ⟨w.heap.size, 0, none⟩ (.int .i64 1)).alloc (.cells #[.int .i64 2, .string xn, .string xv] 56)) := Below.next (below_box hB9 (Nat.le_refl _)) bY
      have HIa := hide ((hI9.setCell w.heap.size 0 (.int .i64 1) HZ1.out).below bY)
      have hsz : ((w9.setCell ⟨w.heap.size, 0, none⟩ (.int .i64 1)).alloc (.cells #[.int .i64 2, .string xn, .string xv] 56)).heap.size = w9.heap.size + 1 := by simp
      have p0 := HXa.out.c0
      have p1 := HXa.out.c1
      have p2 := HXa.out.c2
      have HO1 : Hid (MtOk1 (1, xn, xv)) := ⟨⟨by simp only; omega, by simp only; omega⟩, kx.2.1, kx.2.2⟩
      have HO2 : Hid (MtOk1 (2, xn, xv)) := ⟨⟨by simp only; omega, by simp only; omega⟩, kx.2.1, kx.2.2⟩
      have bp : Below ((w9.setCell ⟨w.heap.size, 0, none⟩ (.int .i64 1)).alloc (.cells #[.int .i64 2, .string xn, .string xv] 56)).heap.size ((w9.setCell ⟨w.heap.size, 0, none⟩ (.int .i64 1)).alloc (.cells #[.int .i64 2, .string xn, .string xv] 56)) (((w9.setCell ⟨w.heap.size, 0, none⟩ (.int .i64 1)).alloc (.cells #[.int .i64 2, .string xn, .string xv] 56)).alloc (.cells #[.int .i64 1, .string xn, .string xv] 56)) := (Below.refl _ _).alloc (Nat.le_refl _) _
      have HF1 := hide (HF.out _ (Below.next hBa bp) bx (HIa.out.below bp).ix _ [(1, xn, xv)] (RowX.one mtC 3 ((w9.setCell ⟨w.heap.size, 0, none⟩ (.int .i64 1)).alloc (.cells #[.int .i64 2, .string xn, .string xv] 56)) (1, xn, xv) 56) (by intro y hy; simp at hy; subst hy; exact HO1.out))
      rw [hsz] at HF1
      have HBp := hide (Below.next hBa bp)
      have HYp := hide (HYa.out.next bp)
      have HIp := hide (HIa.out.below bp)
      simp only at q0 q1 q2 p0 p1 p2
      clear hX9 hI9 HXa HYa HIa hBa bY bp hB9 hsz
      go_wp2_with fail
      refine HF1.out.mono ?_
      rintro e w10 ⟨vp, rfl, hop, h10⟩
      have HB10 := hide (Below.next HBp.out h10)
      have HY10 := hide (HYp.out.next h10)
      have HI10 := hide (HIp.out.below h10)
      have HOP := hide (OwnK.row hop)
      obtain ⟨ap, cp, rfl⟩ := OwnK.shape hop
      have y0 := HY10.out.c0
      have y1 := HY10.out.c1
      have y2 := HY10.out.c2
      simp only at y0 y1 y2
      have bq : Below w10.heap.size w10 (w10.alloc (.cells #[.int .i64 2, .string xn, .string xv] 56)) := (Below.refl _ _).alloc (Nat.le_refl _) _
      have HF2 := hide (HF.out _ (Below.next HB10.out bq) bx (HI10.out.below bq).ix _ [(2, xn, xv)] (RowX.one mtC 3 w10 (2, xn, xv) 56) (by intro y hy; simp at hy; subst hy; exact HO2.out))
      have HBq := hide bq
      clear q0 q1 q2 p0 p1 p2 f0 HF1 HF hop h10 HBp HYp HIp bq
      generalize w9.heap.size = bz at *
      go_wp2_with fail
      refine HF2.out.mono ?_
      rintro e w11 ⟨vq, rfl, hoq, h11⟩
      have HB1011 := hide (Below.next HBq.out h11)
      have HB11 := hide (Below.next HB10.out HB1011.out)
      have HOP11 := hide (HOP.out.below HB1011.out (Nat.le_refl _))
      have HOQ := hide (OwnK.row hoq)
      obtain ⟨aq, cq, rfl⟩ := OwnK.shape hoq
      have HLN := hide HI10.out.len
      have HNT := hide (not_ok L.length _ (fndL L [(1, xn, xv)]) w11 HOP11.out (by have := HLN.out; omega))
      clear y0 y1 y2 HF2 hoq h11 HB10 HY10 HI10 HOP HBq HB1011
      have HCK := hide (P.chkM_kind xn xv)
      rw [show P.chkM [(2, xn, xv)] = P.chkM [(1, xn, xv)] from HCK.out]
      have HPP : Hid ((fndL L [(1, xn, xv)]).length ≤ 200 ∧ (fndL L [(2, xn, xv)]).length ≤ 200) := by
        have hh : ∀ q, (fndL L q).length ≤ 200 := fun q => by
          unfold fndL
          split
          · exact Nat.le_trans (P.findL_len L q) HLN.out
          · simp
        exact ⟨hh _, hh _⟩
      have HNO : Hid (P.chkM [(1, xn, xv)] = 0 → fndL L [(2, xn, xv)] = Q.notL L.length (fndL L [(1, xn, xv)])) := fun h => by
        unfold fndL
        rw [if_pos h, if_pos (HCK.out.trans h)]
        exact P.findL_not L xn xv
      generalize fndL L [(1, xn, xv)] = lp at *
      generalize fndL L [(2, xn, xv)] = lq at *
      generalize P.chkM [(1, xn, xv)] = c at *
      go_wp2_with fail
      refine HNT.out.mono ?_
      rintro e w12 ⟨vn, rfl, hon, h12⟩
      have HB12 := hide (Below.next HB11.out h12)
      by_cases hc : c = 0
      · have HQE := hide (HNO.out hc)
        rw [← show lq = Q.notL L.length lp from HQE.out] at hon
        have HEQ := hide (equalI_any _ _ lq lq w12 (HOQ.out.below h12 (Nat.le_refl _)) (OwnK.row hon))
        rw [show decide (lq = lq) = true from decide_eq_true rfl] at HEQ
        have HAN := hide (fun (W : World) (hb : Below w12.heap.size w12 W) => and_any W _ _ lp lq ((HOP11.out.below h12 (Nat.le_refl _)).below hb (Nat.le_refl _)) ((HOQ.out.below h12 (Nat.le_refl _)).below hb (Nat.le_refl _)) (by have := HPP.out.1; omega) (by have := HPP.out.2; omega) (by have := Q.andL_len lp lq; have := HPP.out.1; omega))
        rw [show Q.andL lp lq = [] by rw [HQE.out]; exact P.and_not _ _] at HAN
        obtain ⟨an, cn, rfl⟩ := OwnK.shape hon
        have hcc : (c == c) = true := by simp
        have hc0 : (c != 0) = false := by simp [hc]
        clear hon HNT HNO HQE hc HOP11 HOQ
        go_wp2_with (first
          | (go_at_call 18; refine HEQ.out.mono ?_; rintro e w13 ⟨rfl, h13⟩)
          | (go_at_call 23; refine (HAN.out _ h13).mono ?_; rintro e w14 ⟨v14, rfl, ho14, h14⟩; obtain ⟨a14, c14, rfl⟩ := OwnK.shape ho14))
        go_ret
        exact ⟨rfl, Below.next HB12.out (Below.next h13 h14)⟩
      · have hcc : (c == c) = true := by simp
        have hc0 : (c != 0) = true := by simp [hc]
        obtain ⟨an, cn, rfl⟩ := OwnK.shape hon
        clear hon HNT HNO hc HOP11 HOQ
        go_wp2
        go_ret
        exact ⟨rfl, HB12.out⟩
  · have he := hne hz
    subst he
    have hP := HEn.out w2
    have hz3 : (P.newE L != 0) = true := by simp [hz]
    clear hok hne hz
    generalize P.newE L = ne at hz3 ⊢
    go_wp2
    go_ret
    exact ⟨rfl, hB2⟩
set_option maxRecDepth 100000 in
theorem lifted_IndexMore (os : Os) (started : os.Started) (H : Type) (enc : TypeId × Value → H) :
    ReturnsInHanded {} Try.checked os 6 .any (Rows.indexMoreSpec.pre6 enc Try.prog Try.f6 Rows.indexMoreRow.domain false) (Rows.indexMoreSpec.post enc Try.prog Try.f6 false true false false) := by
  refine returnsInHanded_of_change_shaped (C := Try.checked) own started (by kernel_rfl) Try.func6
    (ChangeSpec.witness6 (enc := enc) (C := Try.checked) false ⟨#[], #[.slice none 0 0, .slice none 0 0, .slice none 0 0, .agg #[.int .i64 0, .string ⟨#[]⟩, .string ⟨#[]⟩]], []⟩ 8 (by kernel_rfl) (by kernel_rfl) (by kernel_rfl) (by kernel_rfl)) ?_
  intro W base args ds gs before hval0 hW hcnd hsz0 hsh _
  obtain ⟨mx, hmx0⟩ := Try.laysM144.s1_3 W hsh
  have hmx : W.cell? ⟨0, 0, none⟩ = some (.int .i64 mx) := hmx0
  have hsz : (DataW.weightsEach Try.prog (Try.f6.params.toList ++ Rows.indexMoreSpec.plain.varTypes Try.prog) (ds ++ gs)).all (· ≤ reachBytes) = true := hsz0
  have hval : ∀ (j : Nat) t v, Try.f6.params[j]? = some t → args[j]? = some v → Value.okWide Try.prog W .any base t v := hval0
  have hW' := hW
  obtain ⟨p, q, hA0, hV, rfl, hfz, hnd⟩ := hW
  have hA : DataW.TrodAll enc Try.prog W 0 (fun _ => true) true Try.f6.params.toList args.toList ds p := hA0
  rw [Try.params6] at hA hval hsz
  obtain ⟨v0, vs0, d0, ds0, p0, q0, hargs, rfl, rfl, h0, r0⟩ := trodAll_cons hA
  obtain ⟨v1, vs1, d1, ds1, p1, q1, rfl, rfl, rfl, h1, r1⟩ := trodAll_cons r0
  obtain ⟨v2, vs2, d2, ds2, p2, q2, rfl, rfl, rfl, h2, r2⟩ := trodAll_cons r1
  obtain ⟨v3, vs3, d3, ds3, p3, q3, rfl, rfl, rfl, h3, r3⟩ := trodAll_cons r2
  obtain ⟨rfl, rfl, rfl⟩ := trodAll_nil r3
  obtain rfl : args = #[v0, v1, v2, v3] := by cases args; simp_all
  obtain ⟨rfl, rfl⟩ := trodVars_none hV
  have k0 := h0
  have lt0 : ∀ x ∈ p0, x.block < W.heap.size := by obtain ⟨m, hm⟩ := k0; exact DataW.trod_lt m _ _ _ hm
  obtain ⟨s0, len0, cap0, rfl⟩ := okWide_slice Try.underlying22 (hval 0 22 v0 rfl rfl)
  obtain ⟨l0, row0, wf0, sh0⟩ := open_labelss h0
  have rc0 := row_reachN hsz (j := 0) (t := 22) rfl rfl Try.underlying22 sh0
  rw [bytes28] at rc0
  have k1 := h1
  have lt1 : ∀ x ∈ p1, x.block < W.heap.size := by obtain ⟨m, hm⟩ := k1; exact DataW.trod_lt m _ _ _ hm
  obtain ⟨s1, len1, cap1, rfl⟩ := okWide_slice Try.underlying23 (hval 1 23 v1 rfl rfl)
  obtain ⟨l1, row1, wf1, sh1⟩ := open_matches h1
  have rc1 := row_reachN hsz (j := 1) (t := 23) rfl rfl Try.underlying23 sh1
  rw [bytes56] at rc1
  have k2 := h2
  have lt2 : ∀ x ∈ p2, x.block < W.heap.size := by obtain ⟨m, hm⟩ := k2; exact DataW.trod_lt m _ _ _ hm
  obtain ⟨s2, len2, cap2, rfl⟩ := okWide_slice Try.underlying23 (hval 2 23 v2 rfl rfl)
  obtain ⟨l2, row2, wf2, sh2⟩ := open_matches h2
  have rc2 := row_reachN hsz (j := 2) (t := 23) rfl rfl Try.underlying23 sh2
  rw [bytes56] at rc2
  have k3 := h3
  have lt3 : ∀ x ∈ p3, x.block < W.heap.size := by obtain ⟨m, hm⟩ := k3; exact DataW.trod_lt m _ _ _ hm
  obtain ⟨x3, rfl, wf3⟩ := open_match (hval 3 56 v3 rfl rfl) h3
  clear hA0 hval0
  refine (walk_IndexMore (.slice s0 len0 cap0) l0 (.slice s1 len1 cap1) l1 (.slice s2 len2 cap2) l2 x3 W row0 wf0 rc0 row1 wf1 rc1 row2 wf2 rc2 wf3 mx hmx).mono fun e W' ⟨he, bel⟩ => ?_
  subst he
  exact ⟨_, rfl, _, _, _, [], _, [], hW', trodAll_mk1 (shut_bool Try.underlying4 _), (trodAll_cons_mk (Below.trod laidOut (by kernel_rfl) (of_decide_eq_true (by kernel_rfl)) k0 bel lt0) (trodAll_cons_mk (Below.trod laidOut (by kernel_rfl) (of_decide_eq_true (by kernel_rfl)) k1 bel lt1) (trodAll_cons_mk (Below.trod laidOut (by kernel_rfl) (of_decide_eq_true (by kernel_rfl)) k2 bel lt2) (trodAll_cons_mk (Below.trod laidOut (by kernel_rfl) (of_decide_eq_true (by kernel_rfl)) k3 bel lt3) trodAll_mk0)))), rfl, bel.frame _, fun h => by cases h⟩

theorem proved_IndexMore : Rows.IndexMoreSaid :=
  OpenClaim.holds_of_wide 6 Try.f6 rfl rfl rfl rfl rfl rfl rfl ⟨rfl, rfl, rfl, rfl, rfl⟩ rfl rfl rfl rfl rfl (by kernel_rfl) Try.func6 (by kernel_rfl)
    (of_decide_eq_true (by kernel_rfl)) (by unfold Func.isWrapper; first | (rw [if_pos (by decide +kernel)]; kernel_rfl) | (rw [if_neg (by decide +kernel)]; exact ⟨rfl, rfl⟩))
    (fun os started H enc _ => lifted_IndexMore os started H enc)
#print axioms proved_IndexMore
end Go.Proofs.Ytlghnnmgbdjgoaa
