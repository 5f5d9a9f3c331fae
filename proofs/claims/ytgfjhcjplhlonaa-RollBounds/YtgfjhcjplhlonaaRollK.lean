/- What Check of windows answers. -/
import Derived.Test.YtgfjhcjplhlonaaRollC
namespace Go.Proofs.Ytgfjhcjplhlonaa
open Go.RowKit
set_option linter.unusedVariables false
/-- The time ahead of place k. -/
def P.preT (l : List P.Wn) (k : Nat) : Option Int := if k = 0 then none else (l[k - 1]?).map (·.t)
theorem P.preT_succ {l : List P.Wn} {k : Nat} {x : P.Wn} (h : l[k]? = some x) : P.preT l (k + 1) = some x.t := by simp [P.preT, h]
theorem P.chkF_end (l : List P.Wn) (p : Option Int) (k : Nat) (h : l.length ≤ k) : P.chkF p (l.drop k) = 0 := by rw [List.drop_eq_nil_of_le h]; rfl
theorem P.drop_at {α : Type} {l : List α} {k : Nat} {x : α} (h : l[k]? = some x) : l.drop k = x :: l.drop (k + 1) := by
  have hk : k < l.length := (List.getElem?_eq_some_iff.1 h).1
  rw [List.drop_eq_getElem_cons hk]
  have := (List.getElem?_eq_some_iff.1 h).2
  rw [this]
set_option maxHeartbeats 1000000 in
theorem checkW_any (v : Value) (l : List P.Wn) (w : World) (hr : RowW w v l) : Calls Try.prog 19 #[v] w fun e w' => e = .returned (.int .i64 (P.chkW l)) ∧ Below w.heap.size w w' := by
  have HN := hide sound_any
  obtain ⟨a, cap, rfl, ⟨hlc, hmax, hnn⟩, hcase⟩ := hr
  unfold maxLen at hmax
  by_cases hn : 1000 < l.length
  · have hd : decide (1000 < (l.length : Int)) = true := by simp; omega
    have HC : Hid (P.chkW l = 2) := by show _ = _; unfold P.chkW; rw [if_pos hn]
    go_enter Try.func19, Try.ntmps19
    go_wp2
    go_ret
    exact ⟨ret_int HC.out.symm, Below.refl _ _⟩
  · have hd : decide (1000 < (l.length : Int)) = false := by simp; omega
    have HC : Hid (P.chkW l = P.chkF none l) := by show _ = _; unfold P.chkW; rw [if_neg hn]
    have hn' : l.length ≤ 1000 := by omega
    clear hn
    generalize P.chkW l = ans at HC
    go_enter Try.func19, Try.ntmps19
    go_wp2
    go_loopw [10] (fun i wr => ∃ (k : Nat), k ≤ l.length ∧ i = .int .i64 k ∧ ans = P.chkF (P.preT l k) (l.drop k) ∧ Below w.heap.size w wr) (fun i _ => l.length - (intOf i).toNat)
    case atStart => exact ⟨0, by omega, rfl, HC.out, Below.refl _ _⟩
    case round =>
      obtain ⟨k, hk, rfl, heq, hB⟩ := hrel
      have HE := hide heq
      clear heq HC
      by_cases hlt : k < l.length
      · rcases hcase with h | ⟨b, off, rfl, hbs, hcell⟩
        · rw [h] at hlt; simp at hlt
        have j0 : (0 : Int) ≤ (k : Int) := by omega
        have j1 : (k : Int) < (l.length : Int) := by omega
        obtain ⟨x, hx⟩ : ∃ x, l[k]? = some x := ⟨_, List.getElem?_eq_getElem hlt⟩
        obtain ⟨q0, q1, q2, q3, q4, q5, q6⟩ := (RowW.at hcell hx).below hB hbs
        have HD := hide (P.drop_at hx)
        have HP := hide (P.preT_succ hx)
        have HQ : Hid (∀ i y, l[i]? = some y → wr.cell? ⟨b, off + i * 7, none⟩ = some (.int .i64 y.t)) := fun i y hy => ((RowW.at hcell hy).below hB hbs).t
        have HS : Hid (ans = if P.okB x = false then 4 else if ((P.preT l k).any fun t => decide (x.t ≤ t)) = true then 5 else P.chkF (P.preT l (k + 1)) (l.drop (k + 1))) := by
          show _ = _
          rw [HE.out, HD.out, HP.out]; rfl
        have HNx := hide (fun w => HN.out x w)
        clear hcell HN HE HD HP hx
        generalize P.okB x = ok at *
        obtain ⟨t, n, s, mn, mx, f, l'⟩ := x
        simp only at q0 q1 q2 q3 q4 q5 q6 HS
        have hBW : Below w.heap.size w (wr.alloc (.cells #[.int .i64 t, .int .i64 n, .int .i64 s, .int .i64 mn, .int .i64 mx, .int .i64 f, .int .i64 l'] 34)) := hB.alloc hB.size _
        have qb : (wr.alloc (.cells #[.int .i64 t, .int .i64 n, .int .i64 s, .int .i64 mn, .int .i64 mx, .int .i64 f, .int .i64 l'] 34)).cell? ⟨wr.heap.size, 0, none⟩ = some (.int .i64 t) := by simp
        have hsW : wr.heap.size < (wr.alloc (.cells #[.int .i64 t, .int .i64 n, .int .i64 s, .int .i64 mn, .int .i64 mx, .int .i64 f, .int .i64 l'] 34)).heap.size := by simp
        cases ok with
        | false =>
          have HA : Hid (ans = 4) := HS.out
          clear HS HQ
          go_wp2_with (go_at_call 33; refine (HNx.out _).mono ?_; rintro e w' ⟨rfl, hb'⟩)
          go_ret
          exact ⟨ret_int HA.out.symm, Below.next hBW hb'⟩
        | true =>
          by_cases hk0 : 0 < k
          · obtain ⟨i, hi⟩ : ∃ i, i + 1 = k := ⟨k - 1, by omega⟩
            have hil : i < l.length := by omega
            obtain ⟨y, hy⟩ : ∃ y, l[i]? = some y := ⟨_, List.getElem?_eq_getElem hil⟩
            have HY : Hid (P.preT l k = some y.t) := by show _ = _; rw [← hi]; exact P.preT_succ hy
            rw [HY.out] at HS
            have p0 := HQ.out i y hy
            clear HQ HY hy
            generalize y.t = u at *
            simp only [Option.any_some] at HS
            have ei : IntKind.i64.wrap ((k : Int) - 1) = (i : Int) := by rw [IntKind.wrap_i64]; omega
            have j2 : (i : Int) < (l.length : Int) := by omega
            have j3 : (0 : Int) ≤ (i : Int) := by omega
            have j4 : (0 : Int) < (k : Int) := by omega
            clear hi
            have qq := keep_alloc p0 (.cells #[.int .i64 t, .int .i64 n, .int .i64 s, .int .i64 mn, .int .i64 mx, .int .i64 f, .int .i64 l'] 34)
            by_cases hle : t ≤ u
            · have HA : Hid (ans = 5) := by show _ = _; rw [HS.out, if_neg (by decide), if_pos (by simpa using hle)]
              clear HS
              go_wp2_with (go_at_call 33; refine (HNx.out _).mono ?_; rintro e w' ⟨rfl, hb'⟩)
              replace qq := keep_cell qq hb'
              replace qb := keep_cell qb hb'
              replace hBW := Below.next hBW hb'
              go_quiet (fail)
              go_wp2
              go_ret
              exact ⟨ret_int HA.out.symm, below_dn hBW _⟩
            · have HA : Hid (ans = P.chkF (P.preT l (k + 1)) (l.drop (k + 1))) := by show _ = _; rw [HS.out, if_neg (by decide), if_neg (by simpa using hle)]
              have hle2 : decide (t ≤ u) = false := by simpa using hle
              clear HS
              go_wp2_with (go_at_call 33; refine (HNx.out _).mono ?_; rintro e w' ⟨rfl, hb'⟩)
              replace qq := keep_cell qq hb'
              replace qb := keep_cell qb hb'
              replace hBW := Below.next hBW hb'
              go_quiet (fail)
              go_wp2
              go_roundw
              case rel => exact ⟨k + 1, by omega, by go_num, HA.out, below_dn hBW _⟩
              case measure => simp [intOf]; omega
          · have hk1 : k = 0 := by omega
            have HK : Hid (P.preT l k = none) := by show _ = _; rw [hk1]; rfl
            rw [HK.out] at HS
            have HA : Hid (ans = P.chkF (P.preT l (k + 1)) (l.drop (k + 1))) := HS.out
            clear HS hk1 HK HQ
            have hk2 : decide (0 < (k : Int)) = false := by simp; omega
            go_wp2_with (go_at_call 33; refine (HNx.out _).mono ?_; rintro e w' ⟨rfl, hb'⟩)
            replace qb := keep_cell qb hb'
            replace hBW := Below.next hBW hb'
            go_quiet (fail)
            go_wp2
            go_roundw
            case rel => exact ⟨k + 1, by omega, by go_num, HA.out, below_dn hBW _⟩
            case measure => simp [intOf]; omega
      · have hd : decide ((k : Int) < (l.length : Int)) = false := by simp; omega
        have HA : Hid (ans = 0) := by show _ = _; rw [HE.out]; exact P.chkF_end _ _ _ (by omega)
        go_wp2
        go_ret
        exact ⟨ret_int HA.out.symm, hB⟩
end Go.Proofs.Ytgfjhcjplhlonaa
