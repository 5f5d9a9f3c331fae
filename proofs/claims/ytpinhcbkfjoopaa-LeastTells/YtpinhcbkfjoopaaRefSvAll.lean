/- Several texts in one. -/
import Derived.Test.YtpinhcbkfjoopaaRefLeAll
import Derived.Deep.CutRange
/- What the document's own Sieved answers. -/
namespace Go.Proofs.Ytpinhcbkfjoopaa
open Go.RowKit
set_option linter.unusedVariables false
set_option linter.unusedSimpArgs false
namespace P
/-- Behind numbers that lie below. -/
theorem insU_end {p : List Int} {h : Int} (hp : ∀ x ∈ p, x < h) : insU p h = p ++ [h] := by
  induction p with
  | nil => rfl
  | cons y p ih =>
    have := hp y (by simp)
    simp only [insU]
    rw [if_neg (by omega), if_neg (by omega), ih fun x hx => hp x (by simp [hx])]; rfl
/-- Its place. -/
theorem insU_here {p : List Int} {h x : Int} (hp : ∀ y ∈ p, y < h) (hx : h ≤ x) : insU (p ++ [x]) h = if x = h then p ++ [h] else p ++ [h] ++ [x] := by
  induction p with
  | nil =>
    by_cases e : x = h
    · subst e; simp [insU]
    · rw [if_neg e]; simp only [insU, List.nil_append]; rw [if_pos (by omega)]; rfl
  | cons y p ih =>
    have := hp y (by simp)
    have ih := ih fun z hz => hp z (by simp [hz])
    simp only [insU, List.cons_append]
    rw [if_neg (by omega), if_neg (by omega), ih]
    split <;> rfl
/-- What stands behind its place stays. -/
theorem insU_past {p : List Int} {h x : Int} (hu : Up (p ++ [x])) (hp : ∃ y ∈ p, h ≤ y) : insU (p ++ [x]) h = insU p h ++ [x] := by
  induction p with
  | nil => obtain ⟨y, hy, _⟩ := hp; cases hy
  | cons y p ih =>
    obtain ⟨h1, h2⟩ := List.pairwise_cons.1 hu
    simp only [insU, List.cons_append]
    by_cases c1 : h < y
    · rw [if_pos c1, if_pos c1]; rfl
    · by_cases c2 : h = y
      · rw [if_neg c1, if_neg c1, if_pos c2, if_pos c2]; rfl
      · rw [if_neg c1, if_neg c1, if_neg c2, if_neg c2, ih h2 ?_]; · rfl
        obtain ⟨z, hz, hzh⟩ := hp
        rcases List.mem_cons.1 hz with e | hz
        · omega
        · exact ⟨z, hz, hzh⟩
/-- How the loop stands: what is put out of a part. -/
def Sv (p : List Int) (h : Int) (put : Bool) (out : List Int) : Prop := if put then (∃ y ∈ p, h ≤ y) ∧ out = insU p h else (∀ y ∈ p, y < h) ∧ out = p
theorem Sv.nil (h : Int) : Sv [] h false [] := ⟨by simp, rfl⟩
theorem Sv.past {p : List Int} {h x : Int} {out : List Int} (hs : Sv p h true out) (hu : Up (p ++ [x])) : x ≠ h ∧ Sv (p ++ [x]) h true (out ++ [x]) := by
  obtain ⟨⟨y, hy, hyh⟩, rfl⟩ := hs
  have := (List.pairwise_append.1 hu).2.2 y hy x (by simp)
  exact ⟨by omega, ⟨y, by simp [hy], hyh⟩, (insU_past hu ⟨y, hy, hyh⟩).symm⟩
theorem Sv.here {p : List Int} {h x : Int} {out : List Int} (hs : Sv p h false out) (hx : h < x) : Sv (p ++ [x]) h true (out ++ [h] ++ [x]) := by
  obtain ⟨h1, rfl⟩ := hs
  exact ⟨⟨x, by simp, by omega⟩, by rw [insU_here h1 (by omega), if_neg (by omega)]⟩
theorem Sv.same {p : List Int} {h x : Int} {out : List Int} (hs : Sv p h false out) (hx : x = h) : Sv (p ++ [x]) h true (out ++ [h]) := by
  obtain ⟨h1, rfl⟩ := hs
  exact ⟨⟨x, by simp, by omega⟩, by rw [insU_here h1 (by omega), if_pos hx]⟩
theorem Sv.fore {p : List Int} {h x : Int} {out : List Int} (hs : Sv p h false out) (hx : x < h) : Sv (p ++ [x]) h false (out ++ [x]) := by
  obtain ⟨h1, rfl⟩ := hs
  refine ⟨fun y hy => ?_, rfl⟩
  rcases List.mem_append.1 hy with hy | hy
  · exact h1 y hy
  · simp at hy; omega
theorem Sv.end {p : List Int} {h : Int} {put : Bool} {out : List Int} (hs : Sv p h put out) : insU p h = if put then out else out ++ [h] := by
  cases put with
  | true => exact hs.2.symm
  | false => obtain ⟨h1, rfl⟩ := hs; exact insU_end h1
theorem Sv.len {p : List Int} {h : Int} {put : Bool} {out : List Int} (hs : Sv p h put out) : out.length ≤ p.length + 1 := by
  cases put with
  | true => obtain ⟨_, rfl⟩ := hs; exact (insU_len p h).1
  | false => obtain ⟨_, rfl⟩ := hs; omega
end P
/-- How the loop of Sieved stands in memory. -/
structure SvR (w : World) (k : Nat) (wr : World) (v : Value) (out : List Int) : Prop where
  res : BoxL wr (w.heap.size + 1) (.slice none 0 0) z0
  box : BoxL wr (w.heap.size + 1 + 1) v ⟨k, out⟩
  own : OwnU wr (w.heap.size + 3) v out
  bel : Below w.heap.size w wr
  size : w.heap.size + 3 ≤ wr.heap.size
/-- One number more. -/
theorem SvR.app {w : World} {k : Nat} {wr w' : World} {v v' : Value} {out : List Int} (x : Int) (h : SvR w k wr v out) (ho : OwnU w' (w.heap.size + 3) v' (out ++ [x])) (hg : wr.grownBy w' v.ownBlock) (hb : Below (w.heap.size + 3) wr w') :
    SvR w k (w'.setCell ⟨w.heap.size + 1 + 1, 1, none⟩ v') v' (out ++ [x]) := by
  have hx := h.box.grown hg (h.box.ne h.own)
  have hr := h.res.grown hg (h.res.ne h.own)
  have hgs := setCell_grown w' (w.heap.size + 1 + 1) 1 v'
  have hb1 := hx.list v' (out ++ [x])
  refine ⟨hr.other hgs (by omega), hb1, ho.box hx hgs, ?_, ?_⟩
  · exact (h.bel.trans (hb.mono (by omega))).setCell (p := ⟨w.heap.size + 1 + 1, 1, none⟩) (show w.heap.size ≤ w.heap.size + 1 + 1 by omega) _
  · have := hb.size; have := h.size; simp; omega
set_option maxRecDepth 100000 in
set_option maxHeartbeats 16000000 in
theorem Sieved_any (lv : Value) (k : Nat) (l : List Int) (h : Int) (w : World) (hr : RowK .u64 w lv l) (hk : k ≤ 64) (hl : l.length ≤ k) (hu : P.Up l) :
    Calls Try.prog 15 #[aggL lv ⟨k, l⟩, .int .u64 h] w fun e w' => ∃ v, e = .returned (aggL v ⟨k, P.siv k l h⟩) ∧ OwnU w' w.heap.size v (P.siv k l h) ∧ Below w.heap.size w w' := by
  have hb1 := below_nu w (.cells #[.int .i64 k, lv] 24)
  have hb2 := below_nu (w.alloc (.cells #[.int .i64 k, lv] 24)) (.cells #[.int .i64 0, .slice none 0 0] 24)
  have hX := (BoxL.new w lv ⟨k, l⟩).below hb2
  have hZ := zero_new (w.alloc (.cells #[.int .i64 k, lv] 24))
  have hs1 : (w.alloc (.cells #[.int .i64 k, lv] 24)).heap.size = w.heap.size + 1 := by simp
  have hs2 : ((w.alloc (.cells #[.int .i64 k, lv] 24)).alloc (.cells #[.int .i64 0, .slice none 0 0] 24)).heap.size = w.heap.size + 2 := by simp
  rw [hs1] at hZ
  have HB2 := hide (hb1.alloc hb1.size (.cells #[.int .i64 0, .slice none 0 0] 24))
  have hb3 := below_nu ((w.alloc (.cells #[.int .i64 k, lv] 24)).alloc (.cells #[.int .i64 0, .slice none 0 0] 24)) (.cells #[.int .i64 k, .slice none 0 0] 24)
  have HS0 : Hid (SvR w k (((w.alloc (.cells #[.int .i64 k, lv] 24)).alloc (.cells #[.int .i64 0, .slice none 0 0] 24)).alloc (.cells #[.int .i64 k, .slice none 0 0] 24)) (.slice none 0 0) []) := hide (by
    have hy := BoxL.new ((w.alloc (.cells #[.int .i64 k, lv] 24)).alloc (.cells #[.int .i64 0, .slice none 0 0] 24)) (.slice none 0 0) ⟨k, []⟩
    rw [hs2] at hy
    exact ⟨hZ.below hb3, hy, OwnK.nil _ _ _ _, HB2.out.alloc HB2.out.size _, by simp⟩)
  have hX3 := hX.below hb3
  obtain ⟨x0, x1⟩ := hX.cells
  obtain ⟨y0, y1⟩ := hX3.cells
  simp only [cellsL] at x0 x1 y0 y1
  have HR := hide (fun wx (h : Below w.heap.size w wx) => hr.below h (Nat.le_refl _))
  obtain ⟨la, lc, hlv⟩ := hr.shp
  subst hlv
  have HU := hide hu
  clear hr hX hX3 hZ hb1 hb2 hb3 hs1 hs2 HB2 hu
  go_enter Try.func15, Try.ntmps15
  go_upto_region 3 with fail
  generalize ((w.alloc (.cells #[.int .i64 (k : Int), .slice la l.length lc] 24)).alloc (.cells #[.int .i64 0, .slice none 0 0] 24)).alloc (.cells #[.int .i64 (k : Int), .slice none 0 0] 24) = W3 at *
  clear x0 x1
  have hlm : (l.length : Int) ≤ 64 := by omega
  go_wp2
  go_loopw [6, 15] (fun pv iv wr => ∃ (j : Nat) (put : Bool) (v : Value) (out : List Int), pv = .bool put ∧ iv = .int .i64 j ∧ j ≤ l.length ∧ SvR w k wr v out ∧ Hid (P.Sv (l.take j) h put out)) (fun _ iv _ => l.length - (intOf iv).toNat)
  case atStart => exact ⟨0, false, _, [], rfl, rfl, Nat.zero_le _, HS0.out, hide (P.Sv.nil h)⟩
  case round =>
    clear y0 y1 HS0
    obtain ⟨j, put, v, out, rfl, rfl, hj, hS, HP⟩ := hrel
    have hol := HP.out.len
    rw [List.length_take] at hol
    have hl8 : (out.length + 1) * 8 ≤ 140737488355328 := by omega
    have hl66 : out.length ≤ 65 := by omega
    by_cases hlt : j < l.length
    · have hd : decide ((j : Int) < (l.length : Int)) = true := by simp; omega
      obtain ⟨aa, cc, hv, _, hcase⟩ := HR.out wr hS.bel
      simp only [Value.slice.injEq, true_and] at hv
      obtain ⟨rfl, rfl⟩ := hv
      rcases hcase with h0 | ⟨b, off, rfl, hbs, hcell⟩
      · rw [h0] at hlt; simp at hlt
      have q0 := hcell j hlt
      have j0 : (0 : Int) ≤ (j : Int) := by omega
      have j1 : (j : Int) < (l.length : Int) := by omega
      obtain ⟨x, hx⟩ : ∃ x, l[j]? = some x := ⟨_, List.getElem?_eq_getElem hlt⟩
      have hxx : l.getD j 0 = x := by rw [List.getD_eq_getElem?_getD, hx]; rfl
      rw [hxx] at q0
      have HT : Hid (l.take (j + 1) = l.take j ++ [x]) := hide (by rw [List.take_add_one, hx]; rfl)
      have HU2 : Hid (P.Up (l.take j ++ [x])) := hide (by rw [← HT.out]; exact HU.out.sublist (List.take_sublist _ _))
      clear hcell hx hxx hol
      cases put with
      | true =>
        have hn := HP.out.past HU2.out
        have d1 : (x != h) = true := by simpa using hn.1
        have HN := hide hn.2
        clear hn
        obtain ⟨oa, oc, rfl⟩ := hS.own.shape
        have HS := hide hS
        have hne := hS.box.ne hS.own
        obtain ⟨c0, c1⟩ := hS.box.cells
        have hown := hS.own
        have hsz := hS.size
        have hbx := hS.box
        clear hS
        go_wp2_with (at_builtin; go_must (refine wp_app1K rfl _ _ 22 31 .u64 8 rfl Try.underlying22 Try.info31 (by decide) (w.heap.size + 3) (w.heap.size + 3) wr wr _ out x hown (Below.refl _ _) (Nat.le_refl _) rfl rfl hl8 hsz ?_); intro v' w' hown' hb' hsz' hg'; have hS' := HS.out.app x hown' hg' hb'; have hbx' := hbx.grown hg' hne; obtain ⟨a', c', hv'⟩ := hown'.shape; rw [List.length_append, List.length_singleton] at hv'; rw [hv'] at hS' hown' ⊢; clear hv'; obtain ⟨e0, e1⟩ := hbx'.cells; have u1 := hbx'.unfrozen 1)
        go_roundw
        case rel => exact ⟨j + 1, true, _, _, rfl, by go_num, by omega, hS', by rw [HT.out]; exact HN⟩
        case measure => simp [intOf]; omega
      | false =>
        by_cases hhx : h ≤ x
        · have d2 : decide (h ≤ x) = true := by simpa using hhx
          by_cases hxh : x = h
          · have d1 : (x != h) = false := by simp [hxh]
            have HN := hide (HP.out.same hxh)
            clear hxh hhx
            obtain ⟨oa, oc, rfl⟩ := hS.own.shape
            have HS := hide hS
            have hne := hS.box.ne hS.own
            obtain ⟨c0, c1⟩ := hS.box.cells
            have hown := hS.own
            have hsz := hS.size
            have hbx := hS.box
            clear hS
            go_wp2_with (at_builtin; go_must (refine wp_app1K rfl _ _ 22 31 .u64 8 rfl Try.underlying22 Try.info31 (by decide) (w.heap.size + 3) (w.heap.size + 3) wr wr _ out h hown (Below.refl _ _) (Nat.le_refl _) rfl rfl hl8 hsz ?_); intro v' w' hown' hb' hsz' hg'; have hS' := HS.out.app h hown' hg' hb'; have hbx' := hbx.grown hg' hne; obtain ⟨a', c', hv'⟩ := hown'.shape; rw [List.length_append, List.length_singleton] at hv'; rw [hv'] at hS' hown' ⊢; clear hv'; obtain ⟨e0, e1⟩ := hbx'.cells; have u1 := hbx'.unfrozen 1)
            go_roundw
            case rel => exact ⟨j + 1, true, _, _, rfl, by go_num, by omega, hS', by rw [HT.out]; exact HN⟩
            case measure => simp [intOf]; omega
          · have d1 : (x != h) = true := by simpa using hxh
            have HN := hide (HP.out.here (x := x) (by omega))
            clear hxh hhx
            obtain ⟨oa, oc, rfl⟩ := hS.own.shape
            have HS := hide hS
            have hne := hS.box.ne hS.own
            obtain ⟨c0, c1⟩ := hS.box.cells
            have hown := hS.own
            have hsz := hS.size
            have hbx := hS.box
            clear hS
            go_upto_region 9 with (at_builtin; go_must (refine wp_app1K rfl _ _ 22 31 .u64 8 rfl Try.underlying22 Try.info31 (by decide) (w.heap.size + 3) (w.heap.size + 3) wr wr _ out h hown (Below.refl _ _) (Nat.le_refl _) rfl rfl hl8 hsz ?_); intro v' w' hown' hb' hsz' hg'; have hS' := HS.out.app h hown' hg' hb'; have hbx' := hbx.grown hg' hne; obtain ⟨a', c', hv'⟩ := hown'.shape; rw [List.length_append, List.length_singleton] at hv'; rw [hv'] at hS' hown' ⊢; clear hv'; obtain ⟨e0, e1⟩ := hbx'.cells; have u1 := hbx'.unfrozen 1)
            have hS := hS'
            clear hS' hbx hbx' hown' hown hb' hg' hne HS c0 c1 e0 e1 u1 hsz hsz' HP
            replace hl8 : ((out ++ [h]).length + 1) * 8 ≤ 140737488355328 := by simp; omega
            generalize w'.setCell ⟨w.heap.size + 1 + 1, 1, none⟩ (.slice a' (out.length + 1) c') = wr2 at *
            have HS := hide hS
            have hne := hS.box.ne hS.own
            obtain ⟨c0, c1⟩ := hS.box.cells
            have hown := hS.own
            have hsz := hS.size
            have hbx := hS.box
            clear hS
            go_wp2_with (at_builtin; go_must (refine wp_app1K rfl _ _ 22 31 .u64 8 rfl Try.underlying22 Try.info31 (by decide) (w.heap.size + 3) (w.heap.size + 3) wr2 wr2 _ (out ++ [h]) x hown (Below.refl _ _) (Nat.le_refl _) rfl rfl hl8 hsz ?_); intro v' w' hown' hb' hsz' hg'; have hS' := HS.out.app x hown' hg' hb'; have hbx' := hbx.grown hg' hne; obtain ⟨a', c', hv'⟩ := hown'.shape; rw [List.length_append, List.length_append, List.length_singleton, List.length_singleton] at hv'; rw [hv'] at hS' hown' ⊢; clear hv'; obtain ⟨e0, e1⟩ := hbx'.cells; have u1 := hbx'.unfrozen 1)
            go_roundw
            case rel => exact ⟨j + 1, true, _, _, rfl, by go_num, by omega, hS', by rw [HT.out]; exact HN⟩
            case measure => simp [intOf]; omega
        · have d2 : decide (h ≤ x) = false := by simpa using hhx
          have d1 : (x != h) = true := by simp; omega
          have HN := hide (HP.out.fore (x := x) (by omega))
          clear hhx
          obtain ⟨oa, oc, rfl⟩ := hS.own.shape
          have HS := hide hS
          have hne := hS.box.ne hS.own
          obtain ⟨c0, c1⟩ := hS.box.cells
          have hown := hS.own
          have hsz := hS.size
          have hbx := hS.box
          clear hS
          go_wp2_with (at_builtin; go_must (refine wp_app1K rfl _ _ 22 31 .u64 8 rfl Try.underlying22 Try.info31 (by decide) (w.heap.size + 3) (w.heap.size + 3) wr wr _ out x hown (Below.refl _ _) (Nat.le_refl _) rfl rfl hl8 hsz ?_); intro v' w' hown' hb' hsz' hg'; have hS' := HS.out.app x hown' hg' hb'; have hbx' := hbx.grown hg' hne; obtain ⟨a', c', hv'⟩ := hown'.shape; rw [List.length_append, List.length_singleton] at hv'; rw [hv'] at hS' hown' ⊢; clear hv'; obtain ⟨e0, e1⟩ := hbx'.cells; have u1 := hbx'.unfrozen 1)
          go_roundw
          case rel => exact ⟨j + 1, false, _, _, rfl, by go_num, by omega, hS', by rw [HT.out]; exact HN⟩
          case measure => simp [intOf]; omega
    · have hd : decide ((j : Int) < (l.length : Int)) = false := by simp; omega
      obtain rfl : j = l.length := by omega
      rw [List.take_length] at HP
      have HEnd := hide HP.out.end
      have hil := (P.insU_len l h).1
      clear HP hol
      go_upto_if 43 with fail
      go_cut [] from 42 to 62 (fun wx => ∃ (v2 : Value) (o2 : List Int), SvR w k wx v2 o2 ∧ Hid (P.insU l h = o2))
      case first =>
        cases put with
        | true =>
          go_wp2
          go_meet
          case rel => exact ⟨_, out, hS, hide (by rw [HEnd.out]; rfl)⟩
        | false =>
          obtain ⟨oa, oc, rfl⟩ := hS.own.shape
          have HS := hide hS
          have hne := hS.box.ne hS.own
          obtain ⟨c0, c1⟩ := hS.box.cells
          have hown := hS.own
          have hsz := hS.size
          have hbx := hS.box
          clear hS
          go_wp2_with (at_builtin; go_must (refine wp_app1K rfl _ _ 22 31 .u64 8 rfl Try.underlying22 Try.info31 (by decide) (w.heap.size + 3) (w.heap.size + 3) wr wr _ out h hown (Below.refl _ _) (Nat.le_refl _) rfl rfl hl8 hsz ?_); intro v' w' hown' hb' hsz' hg'; have hS' := HS.out.app h hown' hg' hb'; have hbx' := hbx.grown hg' hne; obtain ⟨a', c', hv'⟩ := hown'.shape; rw [List.length_append, List.length_singleton] at hv'; rw [hv'] at hS' hown' ⊢; clear hv'; obtain ⟨e0, e1⟩ := hbx'.cells; have u1 := hbx'.unfrozen 1)
          go_meet
          case rel => exact ⟨_, _, hS', hide (by rw [HEnd.out]; rfl)⟩
      case rest =>
        clear hS HEnd hl8 hl66 HR HU
        obtain ⟨v2, o2, hS2, HO⟩ := hcut
        obtain ⟨pa, pc, rfl⟩ := hS2.own.shape
        have HSV : Hid (P.siv k l h = o2.take k) := hide (by unfold P.siv; rw [HO.out])
        have hcp := OwnU.capP hS2.own
        obtain ⟨c0, c1⟩ := hS2.box.cells
        have u1 := hS2.box.unfrozen 1
        simp only at c0
        by_cases hkl : k < o2.length
        · have d1 : decide ((k : Int) < (o2.length : Int)) = true := by simp; omega
          have i0 : (0 : Int) ≤ (k : Int) := by omega
          have i1 : (k : Int) ≤ (pc : Int) := by omega
          have i2 : k ≤ pc := by omega
          have hbx := hS2.box.list (.slice pa k pc) (o2.take k)
          have hgs := setCell_grown wc (w.heap.size + 1 + 1) 1 (.slice pa k pc)
          have hres := hS2.res.other hgs (by omega)
          have hown := (OwnU.take hS2.own k (by omega)).box hS2.box hgs
          have hbel := hS2.bel.setCell (p := ⟨w.heap.size + 1 + 1, 1, none⟩) (show w.heap.size ≤ w.heap.size + 1 + 1 by omega) (.slice pa k pc)
          obtain ⟨f0, f1⟩ := hbx.cells
          obtain ⟨z0', z1'⟩ := hres.cells
          have v0 := hres.unfrozen 0
          have v1 := hres.unfrozen 1
          have hgf := setS_grown (wc.setCell ⟨w.heap.size + 1 + 1, 1, none⟩ (.slice pa k pc)) (w.heap.size + 1) (.slice pa k pc) ⟨k, o2.take k⟩
          have y6 := hres.all (.slice pa k pc) ⟨k, o2.take k⟩
          have o6 := hide ((hown.box hres hgf).base (show w.heap.size ≤ _ by omega))
          have b6 := hide (Below.setS' hbel (g := w.heap.size + 1) (by omega) (.slice pa k pc) ⟨k, o2.take k⟩)
          obtain ⟨r0, r1⟩ := y6.cells
          simp only at f0 r0
          clear hbx hgs hres hown hbel hgf y6 hS2 HO
          go_wp2
          refine bodyPost_ret (w := setS (wc.setCell ⟨w.heap.size + 1 + 1, 1, none⟩ (.slice pa k pc)) (w.heap.size + 1) (.slice pa k pc) ⟨k, o2.take k⟩) (v := aggL (.slice pa k pc) ⟨k, o2.take k⟩) ?_ rfl ⟨.slice pa k pc, by rw [HSV.out], by rw [HSV.out]; exact o6.out, b6.out⟩
          generalize setS (wc.setCell ⟨w.heap.size + 1 + 1, 1, none⟩ (.slice pa k pc)) (w.heap.size + 1) (.slice pa k pc) ⟨k, o2.take k⟩ = wf at *
          simp [results, Try.results15, go_sem, r0, r1]
        · have d1 : decide ((k : Int) < (o2.length : Int)) = false := by simp; omega
          have hres := hS2.res
          obtain ⟨z0', z1'⟩ := hres.cells
          have v0 := hres.unfrozen 0
          have v1 := hres.unfrozen 1
          have HSV2 : Hid (P.siv k l h = o2) := hide (by rw [HSV.out, List.take_of_length_le (by omega)])
          have hgf := setS_grown wc (w.heap.size + 1) (.slice pa o2.length pc) ⟨k, o2⟩
          have y6 := hres.all (.slice pa o2.length pc) ⟨k, o2⟩
          have o6 := hide ((hS2.own.box hres hgf).base (show w.heap.size ≤ _ by omega))
          have b6 := hide (Below.setS' hS2.bel (g := w.heap.size + 1) (by omega) (.slice pa o2.length pc) ⟨k, o2⟩)
          obtain ⟨r0, r1⟩ := y6.cells
          simp only at r0
          clear hres hgf y6 hS2 HO
          go_wp2
          refine bodyPost_ret (w := setS wc (w.heap.size + 1) (.slice pa o2.length pc) ⟨k, o2⟩) (v := aggL (.slice pa o2.length pc) ⟨k, o2⟩) ?_ rfl ⟨.slice pa o2.length pc, by rw [HSV2.out], by rw [HSV2.out]; exact o6.out, b6.out⟩
          generalize setS wc (w.heap.size + 1) (.slice pa o2.length pc) ⟨k, o2⟩ = wf at *
          simp [results, Try.results15, go_sem, r0, r1]
end Go.Proofs.Ytpinhcbkfjoopaa
