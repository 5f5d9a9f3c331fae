/- What carry does. -/
import Derived.Test.YtlndbmenaaiogaaRankU
namespace Go.Proofs.Ytlndbmenaaiogaa
open Go.RowKit
set_option linter.unusedVariables false
/-- One level is written. -/
theorem OwnV.setLevel {w : World} {base gl n cap j : Nat} {tv u : Value} {s : P.Rk} {m : List Int} (h : OwnV w base tv (.slice (some ⟨gl, 0, none⟩) n cap) s) (hu : OwnI w base u m) (ha : Apt u tv) :
    OwnV (w.setCell ⟨gl, j, none⟩ u) base tv (.slice (some ⟨gl, 0, none⟩) n cap) ⟨s.k, s.tail, s.lv.set j m, s.n, s.sl⟩ := by
  obtain ⟨h1, vs, h2, h3, h4, h5⟩ := h
  have hd : (22 : TypeId) ≠ 2 := by decide
  have hn : n = vs.length := by
    obtain ⟨a, c, hv, _⟩ := OwnL.shp h3
    simp only [Value.slice.injEq] at hv
    exact hv.2.1
  subst hn
  obtain ⟨s1, s2⟩ := World.ownsRow.stored h3 j u
  have hk : ∀ {v : Value} {l : List Int}, OwnI w base v l → OwnI (w.setCell ⟨gl, j, none⟩ u) base v l := fun hv => OwnK.keep hv s2 (own_two h3 hv hd)
  refine ⟨hk h1, vs.set j u, by simp [h2], ?_, fun i v l hv hl => ?_, fun v hv => ?_⟩
  · show World.ownsRow _ _ _ _ _ (vs.set j u).length _
    rw [List.length_set]; exact s1
  · rw [List.getElem?_set] at hv hl
    split at hv
    · rename_i e
      rw [if_pos e] at hl
      split at hv
      · split at hl
        · simp at hv hl; subst hv hl; exact hk hu
        · cases hl
      · cases hv
    · rename_i e
      rw [if_neg e] at hl
      exact hk (h4 i v l hv hl)
  · rcases List.mem_or_eq_of_mem_set hv with hv | rfl
    · exact h5 v hv
    · exact ha
theorem OwnI.level {w : World} {base gl n cap j : Nat} {tv u v : Value} {s : P.Rk} {l : List Int} (hv : OwnI w base v l) (h : OwnV w base tv (.slice (some ⟨gl, 0, none⟩) n cap) s) : OwnI (w.setCell ⟨gl, j, none⟩ u) base v l := by
  obtain ⟨h1, vs, h2, h3, h4, h5⟩ := h
  exact OwnK.keep hv (setCell_grown w gl j u) (own_two h3 hv (by decide))
/-- Where the levels of a rank of the call's own lie. -/
theorem OwnV.shp {w : World} {base : Nat} {tv lv : Value} {s : P.Rk} (h : OwnV w base tv lv s) : ∃ a cap, lv = .slice a s.lv.length cap ∧ s.lv.length ≤ cap ∧ cap ≤ maxLen ∧ (s.lv = [] ∨ ∃ g, a = some ⟨g, 0, none⟩ ∧ base ≤ g ∧ g < w.heap.size) := by
  obtain ⟨h1, vs, h2, h3, h4, h5⟩ := h
  obtain ⟨a, c, hv, c1, c2, c3⟩ := OwnL.shp h3
  rw [h2] at hv c1
  refine ⟨a, c, hv, c1, c2, ?_⟩
  rcases c3 with c3 | c3
  · left; subst c3; exact List.length_eq_zero_iff.1 h2.symm
  · exact .inr c3
theorem OwnV.level {w : World} {base gl n cap j : Nat} {tv : Value} {s : P.Rk} {l : List Int} (h : OwnV w base tv (.slice (some ⟨gl, 0, none⟩) n cap) s) (hj : s.lv[j]? = some l) : ∃ v, w.cell? ⟨gl, j, none⟩ = some v ∧ OwnI w base v l ∧ Apt v tv := by
  obtain ⟨h1, vs, h2, h3, h4, h5⟩ := h
  have hn : n = vs.length := by
    obtain ⟨a, c, hv, _⟩ := OwnL.shp h3
    simp only [Value.slice.injEq] at hv
    exact hv.2.1
  subst hn
  have hlt : j < vs.length := by
    rcases Nat.lt_or_ge j s.lv.length with h | h
    · omega
    · rw [List.getElem?_eq_none h] at hj; cases hj
  have hv : vs[j]? = some vs[j] := List.getElem?_eq_getElem hlt
  exact ⟨vs[j], by rw [World.ownsRow.cellAt h3 j (by omega)]; exact hv, h4 j _ l hv hj, h5 _ (List.getElem_mem hlt)⟩
theorem OwnV.unfrozen {w : World} {base gl n cap : Nat} {tv : Value} {s : P.Rk} (h : OwnV w base tv (.slice (some ⟨gl, 0, none⟩) n cap) s) (j : Nat) : w.frozen? ⟨gl, j, none⟩ = false := by
  obtain ⟨h1, vs, h2, h3, h4, h5⟩ := h
  have hn : n = vs.length := by
    obtain ⟨a, c, hv, _⟩ := OwnL.shp h3
    simp only [Value.slice.injEq] at hv
    exact hv.2.1
  subst hn
  exact World.ownsRow.frozenAt h3 j
theorem OwnV.neBox {w : World} {base gl n cap g : Nat} {tv tb lb : Value} {s r : P.Rk} (h : OwnV w base tv (.slice (some ⟨gl, 0, none⟩) n cap) s) (hb : BoxR w g tb lb r) : gl ≠ g := by
  obtain ⟨h1, vs, h2, h3, h4, h5⟩ := h
  intro e
  exact hb.neL h3 (by simp [Value.ownBlock, e])
/-- How the first loop of carry stands. -/
structure CarAt (w0 : World) (g base : Nat) (tv : Value) (s0 : P.Rk) (LV : List (List Int)) (SL : Int) (vl lvv : Value) (s : P.Rk) (l : List Int) (j : Nat) (wr : World) : Prop where
  box : BoxR wr g tv lvv s
  own : OwnV wr base tv lvv s
  row : OwnI wr base vl l
  apt : Apt vl tv
  k : s.k = s0.k
  tail : s.tail = s0.tail
  n : s.n = s0.n
  car : (P.car s.lv l j).1 = LV
  sl : s.sl + (P.car s.lv l j).2 = SL
  sl0 : 0 ≤ s.sl
  l64 : l.length ≤ 64
  lv64 : ∀ m ∈ s.lv, m.length ≤ 64
  len : s.lv.length ≤ 22
  j22 : j ≤ 22
  below : Below base w0 wr
  size : base ≤ wr.heap.size
theorem OwnV.drew {w : World} {base : Nat} {tv lv : Value} {s : P.Rk} (h : OwnV w base tv lv s) : OwnV w.drew base tv lv s := ⟨h.tail, h.rows⟩
theorem CarAt.next {w0 X : World} {g base gl n cap j : Nat} {tv vl v2 : Value} {s0 s : P.Rk} {LV : List (List Int)} {SL : Int} {l ym : List Int} {wr : World}
    (h : CarAt w0 g base tv s0 LV SL vl (.slice (some ⟨gl, 0, none⟩) n cap) s l j wr) (hgl : base ≤ gl) (hj : s.lv[j]? = some ym) (hp : 0 < ym.length)
    (hbx : BoxR X g tv (.slice (some ⟨gl, 0, none⟩) n cap) ⟨s.k, s.tail, s.lv, s.n, s.sl + (2 ^ j : Nat)⟩) (how : OwnV X base tv (.slice (some ⟨gl, 0, none⟩) n cap) s) (hrow : OwnI X base v2 (P.halve ym l)) (hapt : Apt v2 tv) (hbe : Below base w0 X) (hsz : base ≤ X.heap.size) :
    CarAt w0 g base tv s0 LV SL v2 (.slice (some ⟨gl, 0, none⟩) n cap) ⟨s.k, s.tail, s.lv.set j [], s.n, s.sl + (2 ^ j : Nat)⟩ (P.halve ym l) (j + 1) (X.setCell ⟨gl, j, none⟩ (.slice none 0 0)) := by
  have how3 := (how.same (s' := ⟨s.k, s.tail, s.lv, s.n, s.sl + (2 ^ j : Nat)⟩) rfl rfl)
  have hne := how.neBox hbx
  have hlt : j < s.lv.length := by
    rcases Nat.lt_or_ge j s.lv.length with h | h
    · exact h
    · rw [List.getElem?_eq_none h] at hj; cases hj
  have h64 := h.lv64 ym (List.mem_of_getElem? hj)
  obtain ⟨y, m, rfl⟩ : ∃ y m, ym = y :: m := by
    cases ym with
    | nil => simp at hp
    | cons y m => exact ⟨y, m, rfl⟩
  have hcg := P.car_go j s.lv l y m hj
  refine ⟨?_, ?_, ?_, hapt, h.k, h.tail, h.n, ?_, ?_, ?_, ?_, ?_, ?_, ?_, ?_, ?_⟩
  · exact BoxR.grown (s := ⟨s.k, s.tail, s.lv.set j [], s.n, s.sl + (2 ^ j : Nat)⟩) hbx (setCell_grown _ gl j _) (by simpa using hne)
  · exact how3.setLevel (OwnK.nil _ _ _ _) (fun b hb => by simp [Value.ownBlock] at hb)
  · exact OwnI.level hrow how3
  · have := h.car; rw [hcg] at this; exact this
  · have := h.sl; rw [hcg] at this; simp only at this ⊢; push_cast at this ⊢; omega
  · exact Int.add_nonneg h.sl0 (Int.natCast_nonneg _)
  · have h8 := h.l64
    have : (P.halve (y :: m) l).length = ((y :: m).length + l.length) / 2 := by unfold P.halve; rw [P.odds_len, P.srt_len, List.length_append]
    omega
  · intro z hz
    rcases List.mem_or_eq_of_mem_set hz with hz | rfl
    · exact h.lv64 z hz
    · simp
  · have := h.len; simp only [List.length_set]; exact this
  · have := h.len; omega
  · exact hbe.setCell hgl _
  · simp; exact hsz
theorem weigh_one (lev : Nat) (w : World) (hl : lev ≤ 50) : Calls Try.prog 39 #[.int .i64 1, .int .i64 lev] w fun e w' => e = .returned (.int .i64 ((2 ^ lev : Nat) : Int)) ∧ w' = w := by
  have h := weigh_any 1 lev w (by omega) hl
  rw [Nat.one_mul] at h
  exact h
/-- How the second loop of carry stands. -/
structure PadAt (w0 : World) (g base : Nat) (tv : Value) (s : P.Rk) (vl : Value) (l : List Int) (j : Nat) (lvv : Value) (i : Nat) (wr : World) : Prop where
  box : BoxR wr g tv lvv ⟨s.k, s.tail, s.lv ++ List.replicate i [], s.n, s.sl⟩
  own : OwnV wr base tv lvv ⟨s.k, s.tail, s.lv ++ List.replicate i [], s.n, s.sl⟩
  row : OwnI wr base vl l
  pad : i = 0 ∨ s.lv.length + i ≤ j + 1
  below : Below base w0 wr
  size : base ≤ wr.heap.size
/-- How many levels stand in the box. -/
def lvN (w : World) (g : Nat) : Nat := match w.cell? ⟨g, 2, none⟩ with | some (.slice _ n _) => n | _ => 0
theorem lvN_of {w : World} {g n c : Nat} {a : Option Addr} (h : w.cell? ⟨g, 2, none⟩ = some (.slice a n c)) : lvN w g = n := by unfold lvN; rw [h]
theorem PadAt.more {w0 wr w3 : World} {g base : Nat} {tv vl lvv v3 : Value} {s : P.Rk} {l : List Int} {j i : Nat} {vs : List Value} (h : PadAt w0 g base tv s vl l j lvv i wr) (hg : base ≤ g) (hj : s.lv.length + i ≤ j)
    (h1 : OwnL wr base lvv vs) (h2 : vs.length = (s.lv ++ List.replicate i []).length) (h4 : ∀ (k : Nat) (u : Value) (m : List Int), vs[k]? = some u → (s.lv ++ List.replicate i [])[k]? = some m → OwnI wr base u m) (h5 : ∀ u ∈ vs, Apt u tv)
    (own3 : OwnL w3 base v3 (vs ++ [.slice none 0 0])) (hgr : wr.grownBy w3 lvv.ownBlock) : BoxR w3 g tv lvv ⟨s.k, s.tail, s.lv ++ List.replicate i [], s.n, s.sl⟩ ∧ PadAt w0 g base tv s vl l j v3 (i + 1) (w3.setCell ⟨g, 2, none⟩ v3) := by
  have hb3 := h.box.grown hgr (h.box.neL h1)
  have hm := OwnV.more h.own (Below.refl _ _) h.size (OwnK.nil 2 .i64 wr wr.heap.size) ⟨vs, h1, own3, h2, h4, h5⟩ hgr
  have hr3 : OwnI w3 base vl l := OwnK.keep h.row hgr (own_two h1 h.row (by decide))
  have e : s.lv ++ List.replicate (i + 1) [] = s.lv ++ List.replicate i [] ++ [([] : List Int)] := by rw [List.replicate_succ', List.append_assoc]
  refine ⟨hb3, ⟨?_, ?_, OwnI.box hr3 hb3 2 _, .inr (by omega), ?_, ?_⟩⟩
  · have := hb3.levels v3 (s.lv ++ List.replicate (i + 1) []); exact this
  · rw [e]; exact hm.box hb3 2 _
  · exact (h.below.grown hgr h.size (fun k hk => (World.ownsRow.lt h1 k hk).1)).setCell hg _
  · have := hgr.size; have := h.size; simp; omega
set_option maxRecDepth 100000 in
set_option maxHeartbeats 2000000 in
theorem carry_any (g base : Nat) (tv lvv vl : Value) (s : P.Rk) (l : List Int) (j : Nat) (w : World) (hg : base ≤ g) (hx : BoxR w g tv lvv s) (ho : OwnV w base tv lvv s) (hr : OwnI w base vl l) (ha : Apt vl tv)
    (h1 : 0 ≤ s.sl) (h2 : s.sl + (P.car s.lv l j).2 ≤ 4611686018427387904) (h3 : l.length ≤ 64) (h4 : ∀ m ∈ s.lv, m.length ≤ 64) (h5 : s.lv.length ≤ 22) (h6 : j ≤ 22) (h7 : base ≤ w.heap.size) :
    Calls Try.prog 37 #[.pointer (some ⟨g, 0, none⟩), vl, .int .i64 j] w fun e w' => e = .returned (.tuple #[]) ∧ ∃ lv', BoxR w' g tv lv' ⟨s.k, s.tail, (P.car s.lv l j).1, s.n, s.sl + (P.car s.lv l j).2⟩ ∧ OwnV w' base tv lv' ⟨s.k, s.tail, (P.car s.lv l j).1, s.n, s.sl + (P.car s.lv l j).2⟩ ∧ Below base w w' ∧ base ≤ w'.heap.size := by
  obtain ⟨LV, hLV⟩ : ∃ LV, LV = (P.car s.lv l j).1 := ⟨_, rfl⟩
  obtain ⟨SL, hSL⟩ : ∃ SL : Int, SL = s.sl + (P.car s.lv l j).2 := ⟨_, rfl⟩
  rw [← hLV, ← hSL]
  rw [← hSL] at h2
  have HC : Hid (CarAt w g base tv s LV SL vl lvv s l j w) := ⟨hx, ho, hr, ha, rfl, rfl, rfl, hLV.symm, hSL.symm, h1, h3, h4, h5, h6, Below.refl _ _, h7⟩
  have HH := hide (fun wx va vb (a b : List Int) (ha : RowK .i64 wx va a) (hb : RowK .i64 wx vb b) hl => halve_any va vb a b wx ha hb hl)
  clear hx ho hr ha h1 h3 h4 h5 h6 h7 hLV hSL
  go_enter Try.func37, Try.ntmps37
  go_wp2
  go_loopw [1, 2] (fun vl vj wr => ∃ (lvv : Value) (s' : P.Rk) (l' : List Int) (j' : Nat), vj = .int .i64 j' ∧ CarAt w g base tv s LV SL vl lvv s' l' j' wr) (fun _ vj wr => 23 - (intOf vj).toNat)
  case atStart => exact ⟨_, _, _, _, rfl, HC.out⟩
  case round =>
    obtain ⟨lvv', s', l', j', rfl, hC⟩ := hrel
    have HC1 := hide hC
    obtain ⟨aL, cL, rfl, c1, c2, c3⟩ := hC.own.shp
    unfold maxLen at c2
    obtain ⟨x0, x1, x2, x3, x4⟩ := hC.box.cells
    have j0 : (0 : Int) ≤ (j' : Int) := by omega
    have hj22 := hC.j22
    by_cases hgo : 0 < (s'.lv.getD j' []).length
    · have hlt : j' < s'.lv.length := by
        rcases Nat.lt_or_ge j' s'.lv.length with h | h
        · exact h
        · rw [List.getD_eq_getElem?_getD, List.getElem?_eq_none h] at hgo; simp at hgo
      obtain ⟨ym, hym⟩ : ∃ ym, s'.lv[j']? = some ym := ⟨_, List.getElem?_eq_getElem hlt⟩
      have hgd : s'.lv.getD j' [] = ym := by simp [List.getD_eq_getElem?_getD, hym]
      rw [hgd] at hgo
      rcases c3 with h | ⟨gl, rfl, hgl, hgs⟩
      · rw [h] at hlt; simp at hlt
      obtain ⟨vy, y0, hoy, _⟩ := hC.own.level hym
      obtain ⟨ay, cy, rfl⟩ := OwnK.shape hoy
      have hy64 := hC.lv64 ym (List.mem_of_getElem? hym)
      have hl64 := hC.l64
      have j1 : (j' : Int) < (s'.lv.length : Int) := by omega
      have HHj := hide (HH.out wr _ _ ym l' hoy.row hC.row.row (by omega))
      have HGO := hide hgo
      have HYM := hide hym
      obtain ⟨p, hp⟩ : ∃ p, p = ym.length := ⟨_, rfl⟩
      rw [← hp] at y0 HHj
      have hp0 : 0 < p := by omega
      have HP := hide hp
      have HWj := hide (fun w => weigh_one j' w (by omega))
      obtain ⟨y, m, hymc⟩ : ∃ y m, ym = y :: m := by
        cases hh : ym with
        | nil => rw [hh] at hgo; simp at hgo
        | cons y m => exact ⟨y, m, rfl⟩
      have hsl : s'.sl + ((2 ^ j' : Nat) : Int) ≤ 4611686018427387904 := by
        have h8 := hC.sl
        rw [P.car_go j' s'.lv l' y m (by rw [hym, hymc])] at h8
        simp only at h8
        push_cast at h8 ⊢
        omega
      have hsl0 := hC.sl0
      have hz0 : (0 : Int) ≤ ((2 ^ j' : Nat) : Int) := Int.natCast_nonneg _
      generalize hz : ((2 ^ j' : Nat) : Int) = z at *
      have HZ := hide hz
      have hxu := hC.box
      have hou := hC.own
      have hnebx := hou.neBox hxu
      clear hC hgo hym hp hgd hoy hy64 hymc hz
      go_wp2_with (go_at_call 49; go_must (refine HHj.out.mono ?_); rintro e w2 ⟨v2, rfl, own2, hb2⟩; obtain ⟨a2, k2, rfl⟩ := OwnK.shape own2)
      have b2 := hxu.below hb2
      have o2 := hou.below hb2 (Nat.le_refl _)
      have q4 : w2.drew.cell? ⟨g, 4, none⟩ = some (.int .i64 s'.sl) := b2.cells.2.2.2.2
      have u4 : w2.drew.frozen? ⟨g, 4, none⟩ = false := b2.unfrozen 4
      have B2 := hide b2
      have O2 := hide o2
      clear b2 o2 hxu hou
      first | (go_region_with (go_at_call 39; refine (HWj.out _).mono ?_; rintro e w3 ⟨rfl, rfl⟩)) | fail
      all_goals
        have hwz : IntKind.i64.wrap (s'.sl + z) = s'.sl + z := by rw [IntKind.wrap_i64]; omega
        rw [hwz]
        clear hwz
        have X1 : BoxR (w2.setCell ⟨g, 4, none⟩ (.int .i64 (s'.sl + z))).drew g tv (.slice (some ⟨gl, 0, none⟩) s'.lv.length cL) ⟨s'.k, s'.tail, s'.lv, s'.n, s'.sl + z⟩ := B2.out.slack (s'.sl + z)
        have X2 : OwnV (w2.setCell ⟨g, 4, none⟩ (.int .i64 (s'.sl + z))).drew base tv (.slice (some ⟨gl, 0, none⟩) s'.lv.length cL) s' := OwnV.drew (O2.out.box B2.out 4 _)
        have X3 : OwnI (w2.setCell ⟨g, 4, none⟩ (.int .i64 (s'.sl + z))).drew base (.slice a2 (P.halve ym l').length k2) (P.halve ym l') := OwnI.box (OwnK.base own2 HC1.out.size) B2.out 4 _
        have X4 : Apt (.slice a2 (P.halve ym l').length k2) tv := fun b hb1 hb3 => by
          have h6 := (own2.lt b hb1).1
          have h7 := (HC1.out.own.tail.lt b hb3).2
          omega
        have X5 : Below base w (w2.setCell ⟨g, 4, none⟩ (.int .i64 (s'.sl + z))).drew := ((HC1.out.below.trans (hb2.mono HC1.out.size)).setCell hg _).drew
        have X6 : base ≤ (w2.setCell ⟨g, 4, none⟩ (.int .i64 (s'.sl + z))).drew.heap.size := by
          have h8 := hb2.size
          have h9 := HC1.out.size
          show base ≤ (w2.setCell ⟨g, 4, none⟩ (.int .i64 (s'.sl + z))).heap.size
          simp; omega
        generalize (w2.setCell ⟨g, 4, none⟩ (.int .i64 (s'.sl + z))).drew = X at *
        have t2 := X1.cells.2.2.1
        obtain ⟨vz, y1, _, _⟩ := X2.level HYM.out
        have uz := X2.unfrozen j'
        have HX1 := hide X1
        have HX2 := hide X2
        have HX3 := hide X3
        clear X1 X2 X3 q4 u4 own2 hb2 B2 O2
        go_wp2
        go_roundw
        case rel =>
          refine ⟨_, _, _, _, by go_num, CarAt.next HC1.out hgl HYM.out HGO.out ?_ HX2.out HX3.out X4 X5 X6⟩
          rw [HZ.out]; exact HX1.out
        case measure => simp [intOf]; omega
    · have hnil : s'.lv.getD j' [] = [] := List.length_eq_zero_iff.1 (by omega)
      have HN := hide hnil
      have hcs : (j' < s'.lv.length ∧ ∃ gl ay cy, aL = some ⟨gl, 0, none⟩ ∧ wr.cell? ⟨gl, j', none⟩ = some (.slice ay 0 cy)) ∨ decide ((j' : Int) < (s'.lv.length : Int)) = false := by
        rcases Nat.lt_or_ge j' s'.lv.length with h | h
        · left
          rcases c3 with h0 | ⟨gl, rfl, _, _⟩
          · rw [h0] at h; simp at h
          obtain ⟨vy, y0, hoy, _⟩ := hC.own.level (l := []) (j := j') (by rw [List.getElem?_eq_getElem h]; simpa [List.getD_eq_getElem?_getD, List.getElem?_eq_getElem h] using hnil)
          obtain ⟨ay, cy, rfl⟩ := OwnK.shape hoy
          exact ⟨h, gl, ay, cy, rfl, y0⟩
        · right; simp; omega
      have HPd : Hid (PadAt w g base tv s' u1 l' j' (.slice aL s'.lv.length cL) 0 wr) := by
        refine ⟨?_, ?_, hC.row, .inl rfl, hC.below, hC.size⟩
        · simpa using hC.box
        · exact hC.own.same rfl (by simp)
      obtain ⟨av, cv, rfl⟩ := OwnK.shape hC.row
      clear hC hgo hnil c3 HC
      rcases hcs with ⟨hlt, gl, ay, cy, rfl, y0⟩ | hdf
      case inl =>
        have j1 : (j' : Int) < (s'.lv.length : Int) := by omega
        go_wp2
        clear x0 x1 x2 x3 x4
        go_loopw [57] (fun _ wr => ∃ (lvv : Value) (i : Nat), PadAt w g base tv s' (.slice av l'.length cv) l' j' lvv i wr) (fun _ wr => j' + 1 - lvN wr g)
        case atStart => exact ⟨_, 0, HPd.out⟩
        case round =>
          obtain ⟨lvv2, i, hP⟩ := hrel
          have HP := hide hP
          obtain ⟨aM, cM, rfl, d1, d2, d3⟩ := hP.own.shp
          unfold maxLen at d2
          have z2 := hP.box.cells.2.2.1
          have hlen : (s'.lv ++ List.replicate i ([] : List Int)).length = s'.lv.length + i := by simp
          simp only [hlen] at d1 z2 HP ⊢
          have hlv22 := HC1.out.len
          have hlvN := lvN_of z2
          by_cases hlt2 : s'.lv.length + i ≤ j'
          · have k1 : (((s'.lv.length + i : Nat) : Int)) ≤ (j' : Int) := by omega
            obtain ⟨vs, v1, v2, v3, v4⟩ := hP.own.rows
            have hvs22 : vs.length ≤ 23 := by rw [v1, hlen]; omega
            have hsz := hP.size
            have hbx := hP.box
            have v2' : OwnL wr base (.slice aM (s'.lv.length + i) cM) vs := by rw [← hlen]; exact v2
            have hv1 : (vs ++ [Value.slice none 0 0]).length = s'.lv.length + i + 1 := by rw [List.length_append, v1, hlen]; rfl
            clear d3 hP hlen v2
            generalize hq : s'.lv.length + i = q at *
            have HQ := hide hq
            clear hq
            go_wp2_with (at_builtin; go_must (refine wp_app1L rfl _ _ rfl base _ _ vs (.slice none 0 0) rfl v2' rfl rfl (by omega) hsz ?_); intro v5 w5 own5 hg5; obtain ⟨a5, c5, hv5, _, _, _⟩ := OwnL.shp own5; rw [hv1] at hv5; subst hv5; have hb5 := (BoxR.grown hbx hg5 (hbx.neL v2')); have q5 := hb5.cells.2.2.1; have u5 := hb5.unfrozen 2)
            go_roundw
            case rel =>
              have := HQ.out
              exact ⟨_, i + 1, (PadAt.more HP.out hg (by omega) v2' v1 v3 v4 own5 hg5).2⟩
            case measure =>
              have h9 := lvN_of (g := g) (w := w5.setCell ⟨g, 2, none⟩ (.slice a5 (q + 1) c5)) (PadAt.more HP.out hg (by have := HQ.out; omega) v2' v1 v3 v4 own5 hg5).2.box.cells.2.2.1
              rw [h9, hlvN]
              omega
          · have k1 : ¬ (((s'.lv.length + i : Nat) : Int)) ≤ (j' : Int) := by omega
            have k2 : (j' : Int) < (((s'.lv.length + i : Nat) : Int)) := by omega
            have hj1 : j' < (s'.lv ++ List.replicate i ([] : List Int)).length := by rw [hlen]; omega
            rcases d3 with h | ⟨gm, rfl, hgm, hgms⟩
            · have h' : s'.lv ++ List.replicate i ([] : List Int) = [] := h
              rw [h'] at hj1; simp at hj1
            obtain ⟨vz, y1, _, _⟩ := hP.own.level (List.getElem?_eq_getElem hj1)
            have uz := hP.own.unfrozen j'
            have hst := P.car_stop j' s'.lv l' i HN.out (by have := hP.pad; omega)
            have hne := hP.own.neBox hP.box
            have hown : OwnV wr base tv (.slice (some ⟨gm, 0, none⟩) (s'.lv.length + i) cM) ⟨s'.k, s'.tail, s'.lv ++ List.replicate i [], s'.n, s'.sl⟩ := by rw [← hlen]; exact hP.own
            have HOw := hide (OwnV.setLevel (j := j') hown hP.row (HC1.out.apt))
            have hboxq : BoxR wr g tv (.slice (some ⟨gm, 0, none⟩) (s'.lv.length + i) cM) ⟨s'.k, s'.tail, s'.lv ++ List.replicate i [], s'.n, s'.sl⟩ := by rw [← hlen]; exact hP.box
            have HBx := hide (BoxR.grown hboxq (setCell_grown wr gm j' (.slice av l'.length cv)) (by simpa using hne))
            have HBe := hide (hP.below.setCell (a := w) hgm (p := ⟨gm, j', none⟩) (.slice av l'.length cv))
            have HSz := hide hP.size
            have HST := hide hst
            clear hP hown hst hboxq
            generalize hq : s'.lv.length + i = q at *
            clear hq hlen
            go_wp2
            go_end0
            have esl : s'.sl = SL := by have h8 := HC1.out.sl; rw [HST.out.2] at h8; simpa using h8
            refine ⟨rfl, _, ?_, OwnV.same HOw.out HC1.out.tail.symm (by rw [HST.out.1, HC1.out.car]), HBe.out, by simp; exact HSz.out⟩
            have := HBx.out
            rw [HC1.out.k, HC1.out.n, esl] at this
            exact this
      case inr =>
        have hge : ¬ ((j' : Int) < (s'.lv.length : Int)) := by simpa using hdf
        have hle : (s'.lv.length : Int) ≤ (j' : Int) := by omega
        clear hdf
        go_wp2
        clear x0 x1 x2 x3 x4
        go_loopw [57] (fun _ wr => ∃ (lvv : Value) (i : Nat), PadAt w g base tv s' (.slice av l'.length cv) l' j' lvv i wr) (fun _ wr => j' + 1 - lvN wr g)
        case atStart => exact ⟨_, 0, HPd.out⟩
        case round =>
          obtain ⟨lvv2, i, hP⟩ := hrel
          have HP := hide hP
          obtain ⟨aM, cM, rfl, d1, d2, d3⟩ := hP.own.shp
          unfold maxLen at d2
          have z2 := hP.box.cells.2.2.1
          have hlen : (s'.lv ++ List.replicate i ([] : List Int)).length = s'.lv.length + i := by simp
          simp only [hlen] at d1 z2 HP ⊢
          have hlv22 := HC1.out.len
          have hlvN := lvN_of z2
          by_cases hlt2 : s'.lv.length + i ≤ j'
          · have k1 : (((s'.lv.length + i : Nat) : Int)) ≤ (j' : Int) := by omega
            obtain ⟨vs, v1, v2, v3, v4⟩ := hP.own.rows
            have hvs22 : vs.length ≤ 23 := by rw [v1, hlen]; omega
            have hsz := hP.size
            have hbx := hP.box
            have v2' : OwnL wr base (.slice aM (s'.lv.length + i) cM) vs := by rw [← hlen]; exact v2
            have hv1 : (vs ++ [Value.slice none 0 0]).length = s'.lv.length + i + 1 := by rw [List.length_append, v1, hlen]; rfl
            clear d3 hP hlen v2
            generalize hq : s'.lv.length + i = q at *
            have HQ := hide hq
            clear hq
            go_wp2_with (at_builtin; go_must (refine wp_app1L rfl _ _ rfl base _ _ vs (.slice none 0 0) rfl v2' rfl rfl (by omega) hsz ?_); intro v5 w5 own5 hg5; obtain ⟨a5, c5, hv5, _, _, _⟩ := OwnL.shp own5; rw [hv1] at hv5; subst hv5; have hb5 := (BoxR.grown hbx hg5 (hbx.neL v2')); have q5 := hb5.cells.2.2.1; have u5 := hb5.unfrozen 2)
            go_roundw
            case rel =>
              have := HQ.out
              exact ⟨_, i + 1, (PadAt.more HP.out hg (by omega) v2' v1 v3 v4 own5 hg5).2⟩
            case measure =>
              have h9 := lvN_of (g := g) (w := w5.setCell ⟨g, 2, none⟩ (.slice a5 (q + 1) c5)) (PadAt.more HP.out hg (by have := HQ.out; omega) v2' v1 v3 v4 own5 hg5).2.box.cells.2.2.1
              rw [h9, hlvN]
              omega
          · have k1 : ¬ (((s'.lv.length + i : Nat) : Int)) ≤ (j' : Int) := by omega
            have k2 : (j' : Int) < (((s'.lv.length + i : Nat) : Int)) := by omega
            have hj1 : j' < (s'.lv ++ List.replicate i ([] : List Int)).length := by rw [hlen]; omega
            rcases d3 with h | ⟨gm, rfl, hgm, hgms⟩
            · have h' : s'.lv ++ List.replicate i ([] : List Int) = [] := h
              rw [h'] at hj1; simp at hj1
            obtain ⟨vz, y1, _, _⟩ := hP.own.level (List.getElem?_eq_getElem hj1)
            have uz := hP.own.unfrozen j'
            have hst := P.car_stop j' s'.lv l' i HN.out (by have := hP.pad; omega)
            have hne := hP.own.neBox hP.box
            have hown : OwnV wr base tv (.slice (some ⟨gm, 0, none⟩) (s'.lv.length + i) cM) ⟨s'.k, s'.tail, s'.lv ++ List.replicate i [], s'.n, s'.sl⟩ := by rw [← hlen]; exact hP.own
            have HOw := hide (OwnV.setLevel (j := j') hown hP.row (HC1.out.apt))
            have hboxq : BoxR wr g tv (.slice (some ⟨gm, 0, none⟩) (s'.lv.length + i) cM) ⟨s'.k, s'.tail, s'.lv ++ List.replicate i [], s'.n, s'.sl⟩ := by rw [← hlen]; exact hP.box
            have HBx := hide (BoxR.grown hboxq (setCell_grown wr gm j' (.slice av l'.length cv)) (by simpa using hne))
            have HBe := hide (hP.below.setCell (a := w) hgm (p := ⟨gm, j', none⟩) (.slice av l'.length cv))
            have HSz := hide hP.size
            have HST := hide hst
            clear hP hown hst hboxq
            generalize hq : s'.lv.length + i = q at *
            clear hq hlen
            go_wp2
            go_end0
            have esl : s'.sl = SL := by have h8 := HC1.out.sl; rw [HST.out.2] at h8; simpa using h8
            refine ⟨rfl, _, ?_, OwnV.same HOw.out HC1.out.tail.symm (by rw [HST.out.1, HC1.out.car]), HBe.out, by simp; exact HSz.out⟩
            have := HBx.out
            rw [HC1.out.k, HC1.out.n, esl] at this
            exact this
end Go.Proofs.Ytlndbmenaaiogaa
