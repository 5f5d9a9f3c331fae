/- What Check and checkMatches answer. -/
import Derived.Test.YtlghnnmgbdjgoaaLabelN
namespace Go.Proofs.Ytlghnnmgbdjgoaa
open Go.RowKit
set_option linter.unusedVariables false
/-- The name ahead of place k. -/
def P.pre (l : List P.Lb) (k : Nat) : Option ByteArray := if k = 0 then none else (l[k - 1]?).map (·.1)
theorem P.pre_succ {l : List P.Lb} {k : Nat} {x : P.Lb} (h : l[k]? = some x) : P.pre l (k + 1) = some x.1 := by simp [P.pre, h]
theorem P.chkF_end (l : List P.Lb) (p : Option ByteArray) (k : Nat) (h : l.length ≤ k) : P.chkF p (l.drop k) = 0 := by rw [List.drop_eq_nil_of_le h]; rfl
theorem P.drop_at {α : Type} {l : List α} {k : Nat} {x : α} (h : l[k]? = some x) : l.drop k = x :: l.drop (k + 1) := by
  have hk : k < l.length := (List.getElem?_eq_some_iff.1 h).1
  rw [List.drop_eq_getElem_cons hk]
  have := (List.getElem?_eq_some_iff.1 h).2
  rw [this]
set_option maxHeartbeats 1000000 in
theorem check_any (v : Value) (l : List P.Lb) (w : World) (hr : RowL w v l) (hl : LbOk l) : Calls Try.prog 31 #[v] w fun e w' => e = .returned (.int .i64 (P.chk l)) ∧ Below w.heap.size w w' := by
  have HN := hide isName_any
  obtain ⟨a, cap, rfl, ⟨hlc, hmax, hnn⟩, hcase⟩ := hr
  unfold maxLen at hmax
  by_cases hn : 10 < l.length
  · have hd : decide (10 < (l.length : Int)) = true := by simp; omega
    have HC : Hid (P.chk l = 2) := by show _ = _; unfold P.chk; rw [if_pos hn]
    go_enter Try.func31, Try.ntmps31
    go_wp2
    go_ret
    exact ⟨ret_int HC.out.symm, Below.refl _ _⟩
  · have hd : decide (10 < (l.length : Int)) = false := by simp; omega
    have HC : Hid (P.chk l = P.chkF none l) := by show _ = _; unfold P.chk; rw [if_neg hn]
    have hn' : l.length ≤ 10 := by omega
    clear hn
    generalize P.chk l = ans at HC
    go_enter Try.func31, Try.ntmps31
    go_wp2
    go_loopw [10] (fun i wr => ∃ (k : Nat), k ≤ l.length ∧ i = .int .i64 k ∧ ans = P.chkF (P.pre l k) (l.drop k) ∧ Below w.heap.size w wr) (fun i _ => l.length - (intOf i).toNat)
    case atStart => exact ⟨0, by omega, rfl, HC.out, Below.refl _ _⟩
    case round =>
      obtain ⟨k, hk, rfl, heq, hB⟩ := hrel
      have HE := hide heq
      clear heq HC
      by_cases hlt : k < l.length
      · rcases hcase with h | ⟨b, off, rfl, hbs, hcell⟩
        · rw [h] at hlt; simp at hlt
        have j0 : (0 : Int) ≤ (k : Int) := by omega
        have j1 : (k : Int) < (l.length : Int) := by omega
        obtain ⟨x, hx⟩ : ∃ x, l[k]? = some x := ⟨_, List.getElem?_eq_getElem hlt⟩
        obtain ⟨g0, g1⟩ := RowL.at hcell hx
        have q0 := (hB.cell (p := ⟨b, off + k * 2, none⟩) hbs).trans g0
        have q1 := (hB.cell (p := ⟨b, off + k * 2 + 1, none⟩) hbs).trans g1
        have hw := hl x (List.mem_of_getElem? hx)
        have HD := hide (P.drop_at hx)
        have HP := hide (P.pre_succ hx)
        obtain ⟨xn, xv⟩ := x
        obtain ⟨hw0, hw1⟩ := hw
        have HNx := hide (fun w => HN.out xn w hw0)
        have HQ : Hid (∀ i y, l[i]? = some y → wr.cell? ⟨b, off + i * 2, none⟩ = some (.string y.1)) := fun i y hy => (hB.cell (p := ⟨b, off + i * 2, none⟩) hbs).trans (RowL.at hcell hy).1
        clear hcell g0 g1 HN
        simp only at q0 q1 hw0 hw1
        have HS : Hid (ans = if P.goodN (P.dl xn) = false then 4 else if ((P.pre l k).any fun y => P.leS xn y) = true then 5 else if 40 < xv.size then 2 else P.chkF (P.pre l (k + 1)) (l.drop (k + 1))) := by
          show _ = _
          rw [HE.out, HD.out, HP.out]; rfl
        clear HE HD HP
        cases hg : P.goodN (P.dl xn) with
        | false =>
          rw [hg] at HNx HS
          have HA : Hid (ans = 4) := HS.out
          clear hg HS
          go_wp2_with (go_at_call 53; refine (HNx.out _).mono ?_; rintro e w' ⟨rfl, rfl⟩)
          go_ret
          exact ⟨ret_int HA.out.symm, hB.alloc hB.size _⟩
        | true =>
          rw [hg] at HNx HS
          clear hg
          by_cases hk0 : 0 < k
          · obtain ⟨i, hi⟩ : ∃ i, i + 1 = k := ⟨k - 1, by omega⟩
            have hil : i < l.length := by omega
            obtain ⟨y, hy⟩ : ∃ y, l[i]? = some y := ⟨_, List.getElem?_eq_getElem hil⟩
            have HY : Hid (P.pre l k = some y.1) := by show _ = _; rw [← hi]; exact P.pre_succ hy
            rw [HY.out] at HS
            have q2 := HQ.out i y hy
            clear HQ HY hy
            obtain ⟨yn, yv⟩ := y
            simp only [Option.any_some] at q2 HS
            have ei : IntKind.i64.wrap ((k : Int) - 1) = (i : Int) := by rw [IntKind.wrap_i64]; omega
            have j2 : (i : Int) < (l.length : Int) := by omega
            have j3 : (0 : Int) ≤ (i : Int) := by omega
            have j4 : (0 : Int) < (k : Int) := by omega
            clear hi
            have qq := keep_alloc q2 (.cells #[.string xn, .string xv] 32)
            have qb : (wr.alloc (.cells #[.string xn, .string xv] 32)).cell? ⟨wr.heap.size, 0, none⟩ = some (.string xn) := by simp
            have qb1 : (wr.alloc (.cells #[.string xn, .string xv] 32)).cell? ⟨wr.heap.size, 1, none⟩ = some (.string xv) := by simp
            have hBW : Below w.heap.size w (wr.alloc (.cells #[.string xn, .string xv] 32)) := hB.alloc hB.size _
            cases hle : P.leS xn yn with
            | true =>
              have HA : Hid (ans = 5) := by show _ = _; rw [HS.out, if_neg (by decide), if_pos hle]
              have hle2 : (Op.bytesLess xn.toList yn.toList || xn.toList == yn.toList) = true := hle
              clear hle HS
              go_wp2_with (go_at_call 53; refine (HNx.out _).mono ?_; rintro e w' ⟨rfl, rfl⟩)
              generalize wr.alloc (.cells #[.string xn, .string xv] 32) = W at qq qb qb1 hBW ⊢
              go_quiet (fail)
              go_wp2
              go_ret
              exact ⟨ret_int HA.out.symm, below_dn hBW _⟩
            | false =>
              have HA : Hid (ans = if 40 < xv.size then 2 else P.chkF (P.pre l (k + 1)) (l.drop (k + 1))) := by show _ = _; rw [HS.out, if_neg (by decide), if_neg (by rw [hle]; decide)]
              have hle2 : (Op.bytesLess xn.toList yn.toList || xn.toList == yn.toList) = false := hle
              clear hle HS
              by_cases hv : 40 < xv.size
              · have HA2 : Hid (ans = 2) := by show _ = _; rw [HA.out, if_pos hv]
                have hv2 : decide (40 < (xv.size : Int)) = true := by simp; omega
                go_wp2_with (go_at_call 53; refine (HNx.out _).mono ?_; rintro e w' ⟨rfl, rfl⟩)
                generalize wr.alloc (.cells #[.string xn, .string xv] 32) = W at qq qb qb1 hBW ⊢
                go_quiet (fail)
                go_wp2
                go_ret
                exact ⟨ret_int HA2.out.symm, below_dn hBW _⟩
              · have HA2 : Hid (ans = P.chkF (P.pre l (k + 1)) (l.drop (k + 1))) := by show _ = _; rw [HA.out, if_neg hv]
                have hv2 : decide (40 < (xv.size : Int)) = false := by simp; omega
                go_wp2_with (go_at_call 53; refine (HNx.out _).mono ?_; rintro e w' ⟨rfl, rfl⟩)
                generalize wr.alloc (.cells #[.string xn, .string xv] 32) = W at qq qb qb1 hBW ⊢
                go_quiet (fail)
                go_wp2
                go_roundw
                case rel => exact ⟨k + 1, by omega, by go_num, HA2.out, below_dn hBW _⟩
                case measure => simp [intOf]; omega
          · have hk1 : k = 0 := by omega
            have HK : Hid (P.pre l k = none) := by show _ = _; rw [hk1]; rfl
            rw [HK.out] at HS
            have HA : Hid (ans = if 40 < xv.size then 2 else P.chkF (P.pre l (k + 1)) (l.drop (k + 1))) := HS.out
            clear HS hk1 HK HQ
            have hk2 : decide (0 < (k : Int)) = false := by simp; omega
            have qb : (wr.alloc (.cells #[.string xn, .string xv] 32)).cell? ⟨wr.heap.size, 0, none⟩ = some (.string xn) := by simp
            have qb1 : (wr.alloc (.cells #[.string xn, .string xv] 32)).cell? ⟨wr.heap.size, 1, none⟩ = some (.string xv) := by simp
            have hBW : Below w.heap.size w (wr.alloc (.cells #[.string xn, .string xv] 32)) := hB.alloc hB.size _
            by_cases hv : 40 < xv.size
            · have HA2 : Hid (ans = 2) := by show _ = _; rw [HA.out, if_pos hv]
              have hv2 : decide (40 < (xv.size : Int)) = true := by simp; omega
              go_wp2_with (go_at_call 53; refine (HNx.out _).mono ?_; rintro e w' ⟨rfl, rfl⟩)
              generalize wr.alloc (.cells #[.string xn, .string xv] 32) = W at qb qb1 hBW ⊢
              go_quiet (fail)
              go_wp2
              go_ret
              exact ⟨ret_int HA2.out.symm, below_dn hBW _⟩
            · have HA2 : Hid (ans = P.chkF (P.pre l (k + 1)) (l.drop (k + 1))) := by show _ = _; rw [HA.out, if_neg hv]
              have hv2 : decide (40 < (xv.size : Int)) = false := by simp; omega
              go_wp2_with (go_at_call 53; refine (HNx.out _).mono ?_; rintro e w' ⟨rfl, rfl⟩)
              generalize wr.alloc (.cells #[.string xn, .string xv] 32) = W at qb qb1 hBW ⊢
              go_quiet (fail)
              go_wp2
              go_roundw
              case rel => exact ⟨k + 1, by omega, by go_num, HA2.out, below_dn hBW _⟩
              case measure => simp [intOf]; omega
      · have hd : decide ((k : Int) < (l.length : Int)) = false := by simp; omega
        have HC : Hid (ans = 0) := HE.out.trans (P.chkF_end l _ k (by omega))
        go_wp2
        go_ret
        exact ⟨ret_int HC.out.symm, hB⟩
end Go.Proofs.Ytlghnnmgbdjgoaa
