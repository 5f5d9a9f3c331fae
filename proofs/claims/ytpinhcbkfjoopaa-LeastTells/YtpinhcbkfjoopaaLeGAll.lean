/- Several texts in one. -/
import Derived.Test.YtpinhcbkfjoopaaLeMAll
import Derived.Test.YtpinhcbkfjoopaaLeDivAll
/- What Guess answers. -/
namespace Go.Proofs.Ytpinhcbkfjoopaa
open Go.RowKit
set_option linter.unusedVariables false
set_option linter.unusedSimpArgs false
theorem below_nw (w : World) (o : Obj) : Below w.heap.size w (w.alloc o) := (Below.refl _ w).alloc (Nat.le_refl _) o
namespace P
/-- How many unlike ones there were, about. -/
def gs (k : Nat) (l : List Int) : Nat := if l.length < k then l.length else if l.getD (k - 1) 0 = 18446744073709551615 then k - 1 else (k - 1) * 18446744073709551616 / ((l.getD (k - 1) 0).toNat + 1)
end P
/-- Of so many unlike numbers the last is at least so great. -/
theorem up_great {l : List Int} (h : P.Up l) (h0 : ∀ x ∈ l, 0 ≤ x) (j : Nat) (hj : j < l.length) : (j : Int) ≤ l.getD j 0 := by
  induction j with
  | zero =>
    have := h0 l[0] (List.getElem_mem hj)
    simpa [List.getD_eq_getElem?_getD, List.getElem?_eq_getElem hj] using this
  | succ j ih =>
    have h1 := ih (by omega)
    have h2 := up_of h (show j < j + 1 by omega) hj
    omega
set_option maxRecDepth 100000 in
set_option maxHeartbeats 4000000 in
theorem Guess_bad (lv : Value) (s : P.Ls) (w : World) (hr : RowK .u64 w lv s.h) (hg : ¬ P.LsGood s) :
    Calls Try.prog 11 #[aggL lv s] w fun e w' => e = .returned (.tuple #[.int .u64 0, .int .i64 4]) ∧ Below w.heap.size w w' := by
  have hb := below_nw w (.cells #[.int .i64 s.k, lv] 24)
  have HC := hide (Check_any lv s _ (hr.below hb (Nat.le_refl _)))
  rw [P.chkL_no hg] at HC
  have HB := hide hb
  have hX := BoxL.new w lv s
  obtain ⟨x0, x1⟩ := hX.cells
  obtain ⟨la, lc, rfl⟩ := hr.shp
  simp only [cellsL] at x0 x1
  clear hr hX hg hb
  go_enter Try.func11, Try.ntmps11
  go_wp2_with fail
  refine HC.out.mono ?_
  rintro e w2 ⟨rfl, hb2⟩
  have HB2 := hide (Below.next HB.out hb2)
  clear HB hb2 HC
  go_wp2
  refine bodyPost_ret (results_tmp2 rfl _ _ _) rfl ?_
  exact ⟨rfl, HB2.out⟩
set_option maxRecDepth 100000 in
set_option maxHeartbeats 8000000 in
theorem Guess_ok (lv : Value) (k : Nat) (l : List Int) (w : World) (hr : RowK .u64 w lv l) (hg : P.LsGood ⟨k, l⟩) (hu : U64 l) :
    Calls Try.prog 11 #[aggL lv ⟨k, l⟩] w fun e w' => e = .returned (.tuple #[.int .u64 (P.gs k l : Nat), .int .i64 0]) ∧ Below w.heap.size w w' := by
  have hk := hg.k64
  have hk2 := hg.k2
  have hl := hg.len
  have hup := hg.up
  simp only at hk hk2 hl hup
  have hb := below_nw w (.cells #[.int .i64 k, lv] 24)
  have hr1 := hr.below hb (Nat.le_refl _)
  have HC := hide (Check_any lv ⟨k, l⟩ _ hr1)
  rw [P.chkL_ok hg] at HC
  have HB := hide hb
  have HX : Hid (BoxL (w.alloc (.cells #[.int .i64 k, lv] 24)) w.heap.size lv ⟨k, l⟩) := hide (BoxL.new w lv ⟨k, l⟩)
  have HR := hide hr1
  obtain ⟨x0, x1⟩ := HX.out.cells
  obtain ⟨la, lc, rfl⟩ := hr.shp
  simp only [cellsL] at x0 x1
  clear hr hg hb hr1
  go_enter Try.func11, Try.ntmps11
  go_upto_region 4 with (go_at_call 14; go_must (refine HC.out.mono ?_); rintro e w2 ⟨rfl, hb2⟩)
  have HB2 := hide (Below.next HB.out hb2)
  obtain ⟨x0, x1⟩ := (HX.out.below hb2).cells
  have hrow := HR.out.below hb2 (Nat.le_refl _)
  simp only at x0
  clear HB hb2 HC HX HR
  by_cases hlt : l.length < k
  · have hd : decide ((l.length : Int) < (k : Int)) = true := by simp; omega
    have HG : Hid (P.gs k l = l.length) := hide (by unfold P.gs; rw [if_pos hlt])
    have ew : IntKind.u64.wrap ((l.length : Int)) = (l.length : Int) := by rw [IntKind.wrap_u64]; omega
    clear hrow hup hu
    go_wp2
    refine bodyPost_ret (results_tmp2 rfl _ _ _) rfl ?_
    rw [HG.out]
    exact ⟨rfl, HB2.out⟩
  · have hd : decide ((l.length : Int) < (k : Int)) = false := by simp; omega
    obtain ⟨j, hj⟩ : ∃ j, j + 1 = k := ⟨k - 1, by omega⟩
    have hjl : j < l.length := by omega
    have ek : IntKind.i64.wrap ((k : Int) - 1) = (j : Int) := by rw [IntKind.wrap_i64]; omega
    have eku : IntKind.u64.wrap ((j : Int)) = (j : Int) := by rw [IntKind.wrap_u64]; omega
    obtain ⟨a', c', hv, _, hcase⟩ := hrow
    simp only [Value.slice.injEq] at hv
    obtain ⟨rfl, _, rfl⟩ := hv
    rcases hcase with h | ⟨b, off, rfl, hbs, hcell⟩
    · rw [h] at hjl; simp at hjl
    have c1 := hcell j hjl
    have hgr := up_great hup (fun x hx => (hu x hx).1) j hjl
    have hub := hu.at j
    have HGS : Hid (P.gs k l = if l.getD j 0 = 18446744073709551615 then j else j * 18446744073709551616 / ((l.getD j 0).toNat + 1)) := hide (by unfold P.gs; rw [if_neg hlt, show k - 1 = j by omega])
    obtain ⟨g, hgg⟩ : ∃ g : Nat, l.getD j 0 = g := ⟨(l.getD j 0).toNat, by omega⟩
    rw [hgg] at c1 HGS hgr hub
    have j0 : (0 : Int) ≤ (j : Int) := by omega
    have j1 : (j : Int) < (l.length : Int) := by omega
    clear hcell hgg hup hu
    by_cases hmax : g = 18446744073709551615
    · have hd2 : ((g : Int) == 18446744073709551615) = true := by simp; omega
      have HG : Hid (P.gs k l = j) := hide (by rw [HGS.out, if_pos (by omega)])
      clear HGS
      go_wp2
      go_quiet (fail)
      go_wp2
      refine bodyPost_ret (results_tmp2 rfl _ _ _) rfl ?_
      rw [HG.out]
      exact ⟨rfl, below_dn HB2.out _⟩
    · have hd2 : ((g : Int) == 18446744073709551615) = false := by simp; omega
      have HG : Hid (P.gs k l = j * 18446744073709551616 / (g + 1)) := hide (by rw [HGS.out, if_neg (by omega)]; simp)
      obtain ⟨g1, hg1⟩ : ∃ g1, g1 = g + 1 := ⟨_, rfl⟩
      have eg : IntKind.u64.wrap ((g : Int) + 1) = (g1 : Int) := by rw [IntKind.wrap_u64]; omega
      have HD := hide (fun wx => div64_u j g1 wx (by omega) (by omega) (by omega))
      rw [← hg1] at HG
      clear HGS hg1
      go_wp2
      go_quiet (fail)
      go_wp2_with fail
      refine (HD.out _).mono ?_
      rintro e w3 ⟨r, rfl, rfl⟩
      go_wp2
      refine bodyPost_ret (results_tmp2 rfl _ _ _) rfl ?_
      rw [HG.out]
      exact ⟨rfl, below_dn HB2.out _⟩
end Go.Proofs.Ytpinhcbkfjoopaa
