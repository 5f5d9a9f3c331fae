/- What the document's own WindowsFault answers. -/
import Derived.Test.YtgfjhcjplhlonaaRollN
namespace Go.Proofs.Ytgfjhcjplhlonaa
open Go.RowKit
set_option linter.unusedVariables false
theorem P.okW_no {x : P.Wn} (h : P.okB x = false) : x.n < 1 ∨ 1000000000 < x.n ∨ x.f < x.mn ∨ x.l < x.mn ∨ x.mx < x.mn ∨ x.mx < x.f ∨ x.mx < x.l := by
  have : ¬ P.okW x := fun hx => by rw [(P.okB_iff x).2 hx] at h; cases h
  simp only [P.okW, P.mmOk] at this
  omega
theorem P.okW_yes {x : P.Wn} (h : P.okB x = true) : ¬ x.n < 1 ∧ ¬ 1000000000 < x.n ∧ ¬ x.f < x.mn ∧ ¬ x.l < x.mn ∧ ¬ x.mx < x.mn ∧ ¬ x.mx < x.f ∧ ¬ x.mx < x.l := by
  have := (P.okB_iff x).1 h
  simp only [P.okW, P.mmOk] at this
  omega
set_option maxHeartbeats 4000000 in
theorem windowsFault_any (v : Value) (l : List P.Wn) (w : World) (hr : RowW w v l) : Calls Try.prog 20 #[v] w fun e w' => e = .returned (.int .i64 (P.chkW l)) ∧ Below w.heap.size w w' := by
  obtain ⟨a, cap, rfl, ⟨hlc, hmax, hnn⟩, hcase⟩ := hr
  unfold maxLen at hmax
  by_cases hn : 1000 < l.length
  · have hd : decide (1000 < (l.length : Int)) = true := by simp; omega
    have HC : Hid (P.chkW l = 2) := by show _ = _; unfold P.chkW; rw [if_pos hn]
    go_enter Try.func20, Try.ntmps20
    go_wp2
    go_ret
    exact ⟨ret_int HC.out.symm, Below.refl _ _⟩
  · have hd : decide (1000 < (l.length : Int)) = false := by simp; omega
    have HC : Hid (P.chkW l = P.chkF none l) := by show _ = _; unfold P.chkW; rw [if_neg hn]
    have hn' : l.length ≤ 1000 := by omega
    clear hn
    generalize P.chkW l = ans at HC
    go_enter Try.func20, Try.ntmps20
    go_wp2
    go_loopw [10] (fun i wr => ∃ (k : Nat), k ≤ l.length ∧ i = .int .i64 k ∧ ans = P.chkF (P.preT l k) (l.drop k) ∧ Below w.heap.size w wr) (fun i _ => l.length - (intOf i).toNat)
    case atStart => exact ⟨0, by omega, rfl, HC.out, Below.refl _ _⟩
    case round =>
      obtain ⟨k, hk, rfl, heq, hB⟩ := hrel
      have HE := hide heq
      clear heq HC
      by_cases hlt : k < l.length
      · rcases hcase with h | ⟨b, off, rfl, hbs, hcell⟩
        · rw [h] at hlt; simp at hlt
        have j0 : (0 : Int) ≤ (k : Int) := by omega
        have j1 : (k : Int) < (l.length : Int) := by omega
        obtain ⟨x, hx⟩ : ∃ x, l[k]? = some x := ⟨_, List.getElem?_eq_getElem hlt⟩
        obtain ⟨q0, q1, q2, q3, q4, q5, q6⟩ := (RowW.at hcell hx).below hB hbs
        have HD := hide (P.drop_at hx)
        have HP := hide (P.preT_succ hx)
        have HQ : Hid (∀ i y, l[i]? = some y → wr.cell? ⟨b, off + i * 7, none⟩ = some (.int .i64 y.t)) := fun i y hy => ((RowW.at hcell hy).below hB hbs).t
        have HS : Hid (ans = if P.okB x = false then 4 else if ((P.preT l k).any fun t => decide (x.t ≤ t)) = true then 5 else P.chkF (P.preT l (k + 1)) (l.drop (k + 1))) := by
          show _ = _
          rw [HE.out, HD.out, HP.out]; rfl
        have HNo := hide (fun h => P.okW_no (x := x) h)
        have HYes := hide (fun h => P.okW_yes (x := x) h)
        clear hcell HE HD HP hx
        generalize P.okB x = ok at *
        obtain ⟨t, n, s, mn, mx, f, l'⟩ := x
        simp only at q0 q1 q2 q3 q4 q5 q6 HS HNo HYes
        have hBW : Below w.heap.size w (wr.alloc (.cells #[.int .i64 t, .int .i64 n, .int .i64 s, .int .i64 mn, .int .i64 mx, .int .i64 f, .int .i64 l'] 34)) := hB.alloc hB.size _
        have qb : (wr.alloc (.cells #[.int .i64 t, .int .i64 n, .int .i64 s, .int .i64 mn, .int .i64 mx, .int .i64 f, .int .i64 l'] 34)).cell? ⟨wr.heap.size, 0, none⟩ = some (.int .i64 t) := by simp
        cases ok with
        | false =>
          have HA : Hid (ans = 4) := HS.out
          have ho := HNo.out rfl
          clear HS HQ qb HNo HYes
          by_cases h1 : n < 1
          · clear ho
            go_wp2
            go_ret
            exact ⟨ret_int HA.out.symm, hBW⟩
          by_cases h2 : 1000000000 < n
          · clear ho
            go_wp2
            go_ret
            exact ⟨ret_int HA.out.symm, hBW⟩
          by_cases h3 : f < mn
          · clear ho
            have c1 : decide (n < 1) = false := by simpa using h1
            have c2 : decide (1000000000 < n) = false := by simpa using h2
            go_wp2
            go_ret
            exact ⟨ret_int HA.out.symm, hBW⟩
          by_cases h4 : l' < mn
          · clear ho
            have c1 : decide (n < 1) = false := by simpa using h1
            have c2 : decide (1000000000 < n) = false := by simpa using h2
            have c3 : decide (f < mn) = false := by simpa using h3
            go_wp2
            go_ret
            exact ⟨ret_int HA.out.symm, hBW⟩
          by_cases h5 : mx < mn
          · clear ho
            have c1 : decide (n < 1) = false := by simpa using h1
            have c2 : decide (1000000000 < n) = false := by simpa using h2
            have c3 : decide (f < mn) = false := by simpa using h3
            have c4 : decide (l' < mn) = false := by simpa using h4
            go_wp2
            go_ret
            exact ⟨ret_int HA.out.symm, hBW⟩
          by_cases h6 : mx < f
          · clear ho
            have c1 : decide (n < 1) = false := by simpa using h1
            have c2 : decide (1000000000 < n) = false := by simpa using h2
            have c3 : decide (f < mn) = false := by simpa using h3
            have c4 : decide (l' < mn) = false := by simpa using h4
            have c5 : decide (mx < mn) = false := by simpa using h5
            go_wp2
            go_ret
            exact ⟨ret_int HA.out.symm, hBW⟩
          · have h7 : mx < l' := by omega
            clear ho
            have c1 : decide (n < 1) = false := by simpa using h1
            have c2 : decide (1000000000 < n) = false := by simpa using h2
            have c3 : decide (f < mn) = false := by simpa using h3
            have c4 : decide (l' < mn) = false := by simpa using h4
            have c5 : decide (mx < mn) = false := by simpa using h5
            have c6 : decide (mx < f) = false := by simpa using h6
            go_wp2
            go_ret
            exact ⟨ret_int HA.out.symm, hBW⟩
        | true =>
          obtain ⟨h1, h2, h3, h4, h5, h6, h7⟩ := HYes.out rfl
          have c1 : decide (n < 1) = false := by simpa using h1
          have c2 : decide (1000000000 < n) = false := by simpa using h2
          have c3 : decide (f < mn) = false := by simpa using h3
          have c4 : decide (l' < mn) = false := by simpa using h4
          have c5 : decide (mx < mn) = false := by simpa using h5
          have c6 : decide (mx < f) = false := by simpa using h6
          have c7 : decide (mx < l') = false := by simpa using h7
          clear HNo HYes
          by_cases hk0 : 0 < k
          · obtain ⟨i, hi⟩ : ∃ i, i + 1 = k := ⟨k - 1, by omega⟩
            have hil : i < l.length := by omega
            obtain ⟨y, hy⟩ : ∃ y, l[i]? = some y := ⟨_, List.getElem?_eq_getElem hil⟩
            have HY : Hid (P.preT l k = some y.t) := by show _ = _; rw [← hi]; exact P.preT_succ hy
            rw [HY.out] at HS
            have p0 := HQ.out i y hy
            clear HQ HY hy
            generalize y.t = u at *
            simp only [Option.any_some] at HS
            have ei : IntKind.i64.wrap ((k : Int) - 1) = (i : Int) := by rw [IntKind.wrap_i64]; omega
            have j2 : (i : Int) < (l.length : Int) := by omega
            have j3 : (0 : Int) ≤ (i : Int) := by omega
            have j4 : (0 : Int) < (k : Int) := by omega
            clear hi
            have qq := keep_alloc p0 (.cells #[.int .i64 t, .int .i64 n, .int .i64 s, .int .i64 mn, .int .i64 mx, .int .i64 f, .int .i64 l'] 34)
            by_cases hle : t ≤ u
            · have HA : Hid (ans = 5) := by show _ = _; rw [HS.out, if_neg (by decide), if_pos (by simpa using hle)]
              clear HS
              go_wp2
              go_quiet (fail)
              go_wp2
              go_ret
              exact ⟨ret_int HA.out.symm, below_dn hBW _⟩
            · have HA : Hid (ans = P.chkF (P.preT l (k + 1)) (l.drop (k + 1))) := by show _ = _; rw [HS.out, if_neg (by decide), if_neg (by simpa using hle)]
              have hle2 : decide (t ≤ u) = false := by simpa using hle
              clear HS
              go_wp2
              go_quiet (fail)
              go_wp2
              go_roundw
              case rel => exact ⟨k + 1, by omega, by go_num, HA.out, below_dn hBW _⟩
              case measure => simp [intOf]; omega
          · have hk1 : k = 0 := by omega
            have HK : Hid (P.preT l k = none) := by show _ = _; rw [hk1]; rfl
            rw [HK.out] at HS
            have HA : Hid (ans = P.chkF (P.preT l (k + 1)) (l.drop (k + 1))) := HS.out
            clear HS hk1 HK HQ
            have hk2 : decide (0 < (k : Int)) = false := by simp; omega
            go_wp2
            go_quiet (fail)
            go_wp2
            go_roundw
            case rel => exact ⟨k + 1, by omega, by go_num, HA.out, below_dn hBW _⟩
            case measure => simp [intOf]; omega
      · have hd : decide ((k : Int) < (l.length : Int)) = false := by simp; omega
        have HA : Hid (ans = 0) := by show _ = _; rw [HE.out]; exact P.chkF_end _ _ _ (by omega)
        go_wp2
        go_ret
        exact ⟨ret_int HA.out.symm, hB⟩
end Go.Proofs.Ytgfjhcjplhlonaa
