/- What checkMatches answers. -/
import Derived.Test.YtlghnnmgbdjgoaaLabelC
namespace Go.Proofs.Ytlghnnmgbdjgoaa
open Go.RowKit
set_option linter.unusedVariables false
theorem P.chkMF_end (l : List P.Mt) (k : Nat) (h : l.length ≤ k) : P.chkMF (l.drop k) = 0 := by rw [List.drop_eq_nil_of_le h]; rfl
theorem P.sgB_not {k : Int} (h : ¬ P.Kd k) : P.sgB k = ⟨#[]⟩ := by
  unfold P.Kd at h
  unfold P.sgB P.sgK
  rw [if_neg (by omega), if_neg (by omega), if_neg (by omega), if_neg (by omega)]
set_option maxHeartbeats 1000000 in
theorem checkMatches_any (v : Value) (l : List P.Mt) (w : World) (hr : RowM w v l) (hl : MtOk l) : Calls Try.prog 47 #[v] w fun e w' => e = .returned (.int .i64 (P.chkM l)) ∧ Below w.heap.size w w' := by
  have HN := hide isName_any
  obtain ⟨a, cap, rfl, ⟨hlc, hmax, hnn⟩, hcase⟩ := hr
  unfold maxLen at hmax
  by_cases hn : 10 < l.length
  · have hd : decide (10 < (l.length : Int)) = true := by simp; omega
    have HC : Hid (P.chkM l = 2) := by show _ = _; unfold P.chkM; rw [if_pos hn]
    go_enter Try.func47, Try.ntmps47
    go_wp2
    go_ret
    exact ⟨ret_int HC.out.symm, Below.refl _ _⟩
  · have hd : decide (10 < (l.length : Int)) = false := by simp; omega
    have HC : Hid (P.chkM l = P.chkMF l) := by show _ = _; unfold P.chkM; rw [if_neg hn]
    have hn' : l.length ≤ 10 := by omega
    clear hn
    generalize P.chkM l = ans at HC
    go_enter Try.func47, Try.ntmps47
    go_wp2
    go_loopw [10] (fun i wr => ∃ (k : Nat), k ≤ l.length ∧ i = .int .i64 k ∧ ans = P.chkMF (l.drop k) ∧ Below w.heap.size w wr) (fun i _ => l.length - (intOf i).toNat)
    case atStart => exact ⟨0, by omega, rfl, HC.out, Below.refl _ _⟩
    case round =>
      obtain ⟨k, hk, rfl, heq, hB⟩ := hrel
      have HE := hide heq
      clear heq HC
      by_cases hlt : k < l.length
      · rcases hcase with h | ⟨b, off, rfl, hbs, hcell⟩
        · rw [h] at hlt; simp at hlt
        have j0 : (0 : Int) ≤ (k : Int) := by omega
        have j1 : (k : Int) < (l.length : Int) := by omega
        obtain ⟨x, hx⟩ : ∃ x, l[k]? = some x := ⟨_, List.getElem?_eq_getElem hlt⟩
        obtain ⟨g0, g1, g2⟩ := RowM.at hcell hx
        have q0 := (hB.cell (p := ⟨b, off + k * 3, none⟩) hbs).trans g0
        have q1 := (hB.cell (p := ⟨b, off + k * 3 + 1, none⟩) hbs).trans g1
        have q2 := (hB.cell (p := ⟨b, off + k * 3 + 2, none⟩) hbs).trans g2
        obtain ⟨⟨hw0, hw0'⟩, hw1, hw2⟩ := hl x (List.mem_of_getElem? hx)
        have HD := hide (P.drop_at hx)
        obtain ⟨xk, xn, xv⟩ := x
        have HNx := hide (fun w => HN.out xn w hw1)
        clear hcell g0 g1 g2 HN hx
        simp only at q0 q1 q2 hw0 hw0' hw1 hw2
        have HS : Hid (ans = if ¬ P.Kd xk then 1 else if P.goodN (P.dl xn) = false then 4 else if 40 < xv.size then 2 else P.chkMF (l.drop (k + 1))) := by
          show _ = _
          rw [HE.out, HD.out]; rfl
        clear HE HD
        have HZ := hide (sign_any xk)
        have hBW : Below w.heap.size w (wr.alloc (.cells #[.int .i64 xk, .string xn, .string xv] 56)) := hB.alloc hB.size _
        by_cases hkd : P.Kd xk
        · have hsg : (P.sgB xk).toList ≠ [] := by
            rw [Lib.toList_data]
            obtain ⟨c, t, e, _⟩ := P.sgK_head hkd
            show P.sgK xk ≠ []
            rw [e]; simp
          have hsg2 : (P.sgB xk).toList.isEmpty = false := by
            rw [List.isEmpty_eq_false_iff]; exact hsg
          have HT : Hid (ans = if P.goodN (P.dl xn) = false then 4 else if 40 < xv.size then 2 else P.chkMF (l.drop (k + 1))) := by show _ = _; rw [HS.out, if_neg (by simpa using hkd)]
          clear HS
          generalize P.sgB xk = sg at HZ hsg2
          clear hsg
          cases hg : P.goodN (P.dl xn) with
          | false =>
            have HA : Hid (ans = 4) := by show _ = _; rw [HT.out, if_pos hg]
            rw [hg] at HNx
            clear hg HT
            go_wp2_with (first | (go_at_call 53; refine (HNx.out _).mono ?_; rintro e w' ⟨rfl, rfl⟩) | (go_at_call 80; refine (HZ.out _).mono ?_; rintro e w' ⟨rfl, rfl⟩))
            go_ret
            exact ⟨ret_int HA.out.symm, hBW⟩
          | true =>
            rw [hg] at HNx
            have HA : Hid (ans = if 40 < xv.size then 2 else P.chkMF (l.drop (k + 1))) := by show _ = _; rw [HT.out, if_neg (by rw [hg]; decide)]
            clear hg HT
            by_cases hv : 40 < xv.size
            · have HA2 : Hid (ans = 2) := by show _ = _; rw [HA.out, if_pos hv]
              have hv2 : decide (40 < (xv.size : Int)) = true := by simp; omega
              go_wp2_with (first | (go_at_call 53; refine (HNx.out _).mono ?_; rintro e w' ⟨rfl, rfl⟩) | (go_at_call 80; refine (HZ.out _).mono ?_; rintro e w' ⟨rfl, rfl⟩))
              go_ret
              exact ⟨ret_int HA2.out.symm, hBW⟩
            · have HA2 : Hid (ans = P.chkMF (l.drop (k + 1))) := by show _ = _; rw [HA.out, if_neg hv]
              have hv2 : decide (40 < (xv.size : Int)) = false := by simp; omega
              go_wp2_with (first | (go_at_call 53; refine (HNx.out _).mono ?_; rintro e w' ⟨rfl, rfl⟩) | (go_at_call 80; refine (HZ.out _).mono ?_; rintro e w' ⟨rfl, rfl⟩))
              go_roundw
              case rel => exact ⟨k + 1, by omega, by go_num, HA2.out, hBW⟩
              case measure => simp [intOf]; omega
        · have HA : Hid (ans = 1) := by show _ = _; rw [HS.out, if_pos hkd]
          rw [P.sgB_not hkd] at HZ
          go_wp2_with (first | (go_at_call 53; refine (HNx.out _).mono ?_; rintro e w' ⟨rfl, rfl⟩) | (go_at_call 80; refine (HZ.out _).mono ?_; rintro e w' ⟨rfl, rfl⟩))
          go_ret
          exact ⟨ret_int HA.out.symm, hBW⟩
      · have hd : decide ((k : Int) < (l.length : Int)) = false := by simp; omega
        have HC : Hid (ans = 0) := HE.out.trans (P.chkMF_end l k (by omega))
        go_wp2
        go_ret
        exact ⟨ret_int HC.out.symm, hB⟩
end Go.Proofs.Ytlghnnmgbdjgoaa
