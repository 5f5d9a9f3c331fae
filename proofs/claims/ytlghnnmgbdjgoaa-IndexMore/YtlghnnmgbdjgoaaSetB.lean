/- What And answers. -/
import Derived.Test.YtlghnnmgbdjgoaaSetA
import Derived.Deep.DeepCutAuto
namespace Go.Proofs.Ytlghnnmgbdjgoaa
open Go.RowKit Go.Sort
set_option linter.unusedVariables false
theorem below_dq {B : Nat} {a w : World} (h : Below B a w) (n : Nat) : Below B a (w.drewN n) := ⟨h.os, h.tape, h.output, h.size, h.block⟩
theorem RowK.nil1 {k : IntKind} {w : World} {b off n : Nat} {x : Int} {l : List Int} (h : RowK k w (.slice (some ⟨b, off, none⟩) (n + 1) 1) (x :: l)) : l = [] := by
  obtain ⟨a, c, hv, ⟨h1, h2, h3⟩, hcase⟩ := h
  simp only [Value.slice.injEq, List.length_cons] at hv
  obtain ⟨rfl, hn, rfl⟩ := hv
  simp only [List.length_cons] at h1
  exact List.length_eq_zero_iff.1 (by omega)
/-- A row cut behind its first number. -/
theorem RowK.cut {k : IntKind} {w : World} {b off n cap : Nat} {x : Int} {l : List Int} (h : RowK k w (.slice (some ⟨b, off, none⟩) (n + 1) cap) (x :: l)) : RowK k w (.slice (some (if cap = 1 then ⟨b, off, none⟩ else ⟨b, off + 1, none⟩)) n (cap - 1)) l := by
  by_cases hc : cap = 1
  · subst hc; rw [if_pos rfl]; exact h.tail0
  · rw [if_neg hc]; exact h.tail
set_option maxRecDepth 100000 in
set_option maxHeartbeats 2000000 in
theorem and_any (w : World) (v v2 : Value) (l l2 : List Int) (h : RowK .i64 w v l) (h2 : RowK .i64 w v2 l2) (hsz : l.length * 8 ≤ 281474976710656) (hsz2 : l2.length * 8 ≤ 281474976710656) (hor : (Q.andL l l2).length * 8 ≤ 140737488355328) :
    Calls Try.prog 23 #[v, v2] w fun e w' => ∃ v', e = .returned v' ∧ OwnI w' w.heap.size v' (Q.andL l l2) ∧ Below w.heap.size w w' := by
  have HO := hide (ordered_one w v l h hsz)
  have HP := hide (fun w' (hb : Below w.heap.size w w') => ordered_one w' v2 l2 (h2.below hb (Nat.le_refl _)) hsz2)
  have HA := hide (Q.ord_asc l)
  have HB := hide (Q.ord_asc l2)
  unfold Q.andL at *
  have ho1 := Q.ord_len l
  have ho2 := Q.ord_len l2
  generalize Q.ord l = s at *
  generalize Q.ord l2 = s2 at *
  obtain ⟨a, ca, rfl, _⟩ := h
  obtain ⟨b, cb, rfl, _⟩ := h2
  go_enter Try.func23, Try.ntmps23
  go_wp2_with fail
  refine HO.out.mono ?_
  rintro e w1 ⟨v1, rfl, own1, hb1⟩
  obtain ⟨a1, c1, hv⟩ := own1.shape
  subst hv
  go_wp2_with fail
  refine (HP.out _ hb1).mono ?_
  rintro e w2 ⟨v2, rfl, own2, hb2⟩
  obtain ⟨a2, c2, hv⟩ := own2.shape
  subst hv
  have hbb := Below.next hb1 hb2
  have row1 := (own1.below hb2 (Nat.le_refl _)).row
  have row2 := own2.row
  have HS := hide hbb
  have HR1 := hide row1
  have HR2 := hide row2
  clear HO HP own1 own2 hb1 hb2 row1 row2 hbb
  go_wp2
  go_loopw [0, 1, 5] (fun va vb vc wr => AndAt w2 (Q.both s s2) va vb vc wr) (fun va vb _ _ => lenV va + lenV vb)
  case atStart => exact ⟨s, s2, [], HR1.out, HR2.out, OwnK.nil _ _ _ _, HA.out, HB.out, rfl, Below.refl _ _⟩
  case round =>
    obtain ⟨sa, sb, acc, ra, rb, own, asa, asb, hr, hB⟩ := hrel
    cases sa with
    | nil =>
      obtain ⟨x0, x1, rfl, hrest⟩ := ra
      obtain ⟨y0, y1, rfl, hrest2⟩ := rb
      rw [Q.both_nil_l, List.append_nil] at hr
      have HH := hide hr
      clear hr hrest hrest2
      go_wp2
      go_ret
      rw [← HH.out]
      exact ⟨_, rfl, OwnK.base own HS.out.size, Below.next HS.out hB⟩
    | cons x sa =>
      cases sb with
      | nil =>
        obtain ⟨x0, x1, rfl, hrest⟩ := ra
        obtain ⟨y0, y1, rfl, hrest2⟩ := rb
        rw [Q.both_nil_r, List.append_nil] at hr
        have HH := hide hr
        clear hr hrest hrest2
        go_wp2
        go_ret
        rw [← HH.out]
        exact ⟨_, rfl, OwnK.base own HS.out.size, Below.next HS.out hB⟩
      | cons y sb =>
        obtain ⟨p, o, cp, rfl, hcp, hmp, hpl, cellx⟩ := ra.cons
        obtain ⟨q, o2, cq, rfl, hcq, hmq, hql, celly⟩ := rb.cons
        have gx := (hB.cell (p := ⟨p, o, none⟩) hpl).trans cellx
        have gy := (hB.cell (p := ⟨q, o2, none⟩) hql).trans celly
        unfold maxLen at hmp hmq
        have RA := hide ra
        have RB := hide rb
        have HAs := hide asa
        have HBs := hide asb
        have HH := hide hr
        have hlen : acc.length + (Q.both (x :: sa) (y :: sb)).length = (Q.both s s2).length := by rw [← hr, List.length_append]
        clear ra rb asa asb hr cellx celly hpl hql
        have nx : (0 : Int) < ((sa.length : Int) + 1) := by omega
        have ny : (0 : Int) < ((sb.length : Int) + 1) := by omega
        have mx : ((sa.length : Int) + 1) ≤ 9223372036854775807 := by omega
        have my : ((sb.length : Int) + 1) ≤ 9223372036854775807 := by omega
        rcases Int.lt_trichotomy x y with hxy | hxy | hxy
        · have t1 : decide (x < y) = true := by simpa using hxy
          have HE : Hid (acc ++ Q.both sa (y :: sb) = Q.both s s2) := by rw [← Q.both_lt HBs.out hxy]; exact HH.out
          clear hlen
          by_cases hc : cp = 1
          · subst hc
            obtain rfl := RA.out.nil1
            have RT := hide RA.out.tail0
            go_wp2
            go_quiet (fail)
            go_wp2
            go_roundw
            case rel => exact ⟨[], y :: sb, acc, RT.out, RB.out, own, Q.asc_tail HAs.out, HBs.out, HE.out, below_dq hB _⟩
            case measure => simp [lenV]
          · have RT := hide RA.out.tail
            have hc2 : 1 < cp := by omega
            go_wp2
            go_quiet (fail)
            go_wp2
            go_roundw
            case rel => exact ⟨sa, y :: sb, acc, RT.out, RB.out, own, Q.asc_tail HAs.out, HBs.out, HE.out, below_dq hB _⟩
            case measure => simp [lenV]
        · subst hxy
          have t1 : decide (x < x) = false := by simp
          have HE : Hid ((acc ++ [x]) ++ Q.both sa sb = Q.both s s2) := by rw [List.append_assoc, List.singleton_append, ← Q.both_eq HAs.out]; exact HH.out
          rw [Q.both_eq HAs.out, List.length_cons] at hlen
          have hl8 : (acc.length + 1) * 8 ≤ 140737488355328 := by omega
          have HS2 := hide hB.size
          clear hlen
          go_wp2
          go_quiet (fail)
          go_wp2
          go_quiet (fail)
          go_wp2_with (at_builtin; go_must (refine wp_app1K rfl _ _ _ 3 .i64 8 rfl Try.underlying37 infoI ⟨by omega, by omega⟩ w2.heap.size w2.heap.size w2 _ _ acc x own (below_dq hB _) (Nat.le_refl _) rfl rfl hl8 HS2.out ?_); intro v' w6 own6 bl6 sz6 hg6)
          obtain ⟨a6, c6, hv6⟩ := own6.shape
          subst hv6
          by_cases hc : cp = 1
          · subst hc
            obtain rfl := RA.out.nil1
            have RT := hide RA.out.tail0
            by_cases hd : cq = 1
            · subst hd
              obtain rfl := RB.out.nil1
              have RT2 := hide RB.out.tail0
              go_wp2
              go_quiet (fail)
              go_wp2
              go_roundw
              case rel => exact ⟨[], [], acc ++ [x], RT.out, RT2.out, own6, Q.asc_tail HAs.out, Q.asc_tail HBs.out, HE.out, below_dq bl6 _⟩
              case measure => simp [lenV]; try omega
            · have RT2 := hide RB.out.tail
              have hd2 : 1 < cq := by omega
              go_wp2
              go_quiet (fail)
              go_wp2
              go_roundw
              case rel => exact ⟨[], sb, acc ++ [x], RT.out, RT2.out, own6, Q.asc_tail HAs.out, Q.asc_tail HBs.out, HE.out, below_dq bl6 _⟩
              case measure => simp [lenV]; try omega
          · have RT := hide RA.out.tail
            have hc2 : 1 < cp := by omega
            by_cases hd : cq = 1
            · subst hd
              obtain rfl := RB.out.nil1
              have RT2 := hide RB.out.tail0
              go_wp2
              go_quiet (fail)
              go_wp2
              go_roundw
              case rel => exact ⟨sa, [], acc ++ [x], RT.out, RT2.out, own6, Q.asc_tail HAs.out, Q.asc_tail HBs.out, HE.out, below_dq bl6 _⟩
              case measure => simp [lenV]; try omega
            · have RT2 := hide RB.out.tail
              have hd2 : 1 < cq := by omega
              go_wp2
              go_quiet (fail)
              go_wp2
              go_roundw
              case rel => exact ⟨sa, sb, acc ++ [x], RT.out, RT2.out, own6, Q.asc_tail HAs.out, Q.asc_tail HBs.out, HE.out, below_dq bl6 _⟩
              case measure => simp [lenV]; try omega
        · have t1 : decide (x < y) = false := by simp; omega
          have t2 : decide (x > y) = true := by simpa using hxy
          have HE : Hid (acc ++ Q.both (x :: sa) sb = Q.both s s2) := by rw [← Q.both_gt HAs.out hxy]; exact HH.out
          clear hlen
          by_cases hc : cq = 1
          · subst hc
            obtain rfl := RB.out.nil1
            have RT := hide RB.out.tail0
            go_wp2
            go_quiet (fail)
            go_wp2
            go_quiet (fail)
            go_wp2
            go_roundw
            case rel => exact ⟨x :: sa, [], acc, RA.out, RT.out, own, HAs.out, Q.asc_tail HBs.out, HE.out, below_dq hB _⟩
            case measure => simp [lenV]
          · have RT := hide RB.out.tail
            have hc2 : 1 < cq := by omega
            go_wp2
            go_quiet (fail)
            go_wp2
            go_quiet (fail)
            go_wp2
            go_roundw
            case rel => exact ⟨x :: sa, sb, acc, RA.out, RT.out, own, HAs.out, Q.asc_tail HBs.out, HE.out, below_dq hB _⟩
            case measure => simp [lenV]
end Go.Proofs.Ytlghnnmgbdjgoaa
