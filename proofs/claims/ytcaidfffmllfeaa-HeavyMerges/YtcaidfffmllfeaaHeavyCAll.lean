/- Several texts in one. -/
import Derived.Test.YtcaidfffmllfeaaKitHAll
import Derived.BigQuiet
/- What isK, isCount, soundCounts and accounted answer. -/
namespace Go.Proofs.Ytcaidfffmllfeaa
open Go.RowKit
set_option linter.unusedVariables false
namespace P
/-- A count that may stand in a tally. -/
def ok1 (x : Ct) : Prop := x.1.size ≤ 40 ∧ 0 < x.2 ∧ x.2 ≤ 1000000000
def d0 : Ct := (ByteArray.empty, 0)
/-- Place j of a list may stand there. -/
def stO (l : List Ct) (j : Nat) : Prop := ok1 (l.getD j d0) ∧ (j = 0 ∨ kl (l.getD (j - 1) d0).1 (l.getD j d0).1 = true)
def OkC (l : List Ct) : Prop := (∀ x ∈ l, ok1 x) ∧ Asc l
theorem at_get {α : Type} {l : List α} {j : Nat} {x d : α} (h : l[j]? = some x) : l.getD j d = x := by simp [List.getD_eq_getElem?_getD, h]
theorem okC_of {l : List Ct} (h : ∀ j, j < l.length → stO l j) : OkC l := by
  have step : ∀ d i, i + d + 1 < l.length → kl (l.getD i d0).1 (l.getD (i + d + 1) d0).1 = true := by
    intro d
    induction d with
    | zero => intro i hi; rcases (h (i + 1) hi).2 with h1 | h1; · omega
              exact h1
    | succ d ih =>
      intro i hi
      have h1 := ih i (by omega)
      rcases (h (i + (d + 1) + 1) (by omega)).2 with h2 | h2
      · omega
      · exact kl_trans h1 h2
  refine ⟨fun x hx => ?_, List.pairwise_iff_getElem.2 fun i j hi hj hij => ?_⟩
  · obtain ⟨j, hj, rfl⟩ := List.getElem_of_mem hx
    have := (h j hj).1
    rwa [at_get (List.getElem?_eq_getElem hj)] at this
  · have := step (j - i - 1) i (by omega)
    rw [show i + (j - i - 1) + 1 = j by omega, at_get (List.getElem?_eq_getElem hi), at_get (List.getElem?_eq_getElem hj)] at this
    exact this
theorem okC_at {l : List Ct} (h : OkC l) (j : Nat) (hj : j < l.length) : stO l j := by
  refine ⟨?_, ?_⟩
  · rw [at_get (List.getElem?_eq_getElem hj)]; exact h.1 _ (List.getElem_mem hj)
  · rcases Nat.eq_zero_or_pos j with h0 | h0
    · exact .inl h0
    · right
      rw [at_get (List.getElem?_eq_getElem hj), at_get (List.getElem?_eq_getElem (show j - 1 < l.length by omega))]
      exact List.pairwise_iff_getElem.1 h.2 (j - 1) j (by omega) hj (by omega)
open Classical in
noncomputable def okB (l : List Ct) : Bool := decide (OkC l)
theorem okB_yes {l : List Ct} (h : OkC l) : okB l = true := by unfold okB; simpa using h
theorem okB_no {l : List Ct} (h : ¬ OkC l) : okB l = false := by unfold okB; simpa using h
theorem OkC.pos {l : List Ct} (h : OkC l) : Pos l := fun x hx => (h.1 x hx).2.1
end P
theorem isK_any (k : Int) (w : World) : Calls Try.prog 26 #[.int .i64 k] w fun e w' => e = .returned (.bool (decide (1 ≤ k ∧ k ≤ 64))) ∧ w' = w := by
  by_cases h1 : 1 ≤ k
  · by_cases h2 : k ≤ 64
    · have hd : decide (k ≤ 64) = true := by simpa using h2
      have HD : Hid (decide (1 ≤ k ∧ k ≤ 64) = true) := by show _ = _; simp; omega
      generalize decide (1 ≤ k ∧ k ≤ 64) = z at *
      go_enter Try.func26, Try.ntmps26
      go_wp2
      go_ret
      exact ⟨by rw [HD.out]; rfl, rfl⟩
    · have hd : decide (k ≤ 64) = false := by simpa using h2
      have HD : Hid (decide (1 ≤ k ∧ k ≤ 64) = false) := by show _ = _; simp; omega
      generalize decide (1 ≤ k ∧ k ≤ 64) = z at *
      go_enter Try.func26, Try.ntmps26
      go_wp2
      go_ret
      exact ⟨by rw [HD.out]; rfl, rfl⟩
  · have hd : decide (1 ≤ k) = false := by simpa using h1
    have HD : Hid (decide (1 ≤ k ∧ k ≤ 64) = false) := by show _ = _; simp; omega
    generalize decide (1 ≤ k ∧ k ≤ 64) = z at *
    go_enter Try.func26, Try.ntmps26
    go_wp2
    go_ret
    exact ⟨by rw [HD.out]; rfl, rfl⟩
theorem isCount_any (k : Int) (w : World) : Calls Try.prog 29 #[.int .i64 k] w fun e w' => e = .returned (.bool (decide (0 ≤ k ∧ k ≤ 1000000000))) ∧ w' = w := by
  by_cases h1 : 0 ≤ k
  · by_cases h2 : k ≤ 1000000000
    · have hd : decide (k ≤ 1000000000) = true := by simpa using h2
      have HD : Hid (decide (0 ≤ k ∧ k ≤ 1000000000) = true) := by show _ = _; simp; omega
      generalize decide (0 ≤ k ∧ k ≤ 1000000000) = z at *
      go_enter Try.func29, Try.ntmps29
      go_wp2
      go_ret
      exact ⟨by rw [HD.out]; rfl, rfl⟩
    · have hd : decide (k ≤ 1000000000) = false := by simpa using h2
      have HD : Hid (decide (0 ≤ k ∧ k ≤ 1000000000) = false) := by show _ = _; simp; omega
      generalize decide (0 ≤ k ∧ k ≤ 1000000000) = z at *
      go_enter Try.func29, Try.ntmps29
      go_wp2
      go_ret
      exact ⟨by rw [HD.out]; rfl, rfl⟩
  · have hd : decide (0 ≤ k) = false := by simpa using h1
    have HD : Hid (decide (0 ≤ k ∧ k ≤ 1000000000) = false) := by show _ = _; simp; omega
    generalize decide (0 ≤ k ∧ k ≤ 1000000000) = z at *
    go_enter Try.func29, Try.ntmps29
    go_wp2
    go_ret
    exact ⟨by rw [HD.out]; rfl, rfl⟩
set_option maxHeartbeats 2000000 in
theorem soundCounts_any (v : Value) (l : List P.Ct) (w : World) (hr : RowC w v l) (hl : CtOk l) : Calls Try.prog 28 #[v] w fun e w' => e = .returned (.bool (P.okB l)) ∧ Below w.heap.size w w' := by
  have HN := hide isCount_any
  obtain ⟨a, cap, rfl, ⟨hlc, hmax, hnn⟩, hcase⟩ := hr
  unfold maxLen at hmax
  have HNo : Hid (∀ j, j < l.length → ¬ P.stO l j → P.okB l = false) := fun j hj h => P.okB_no fun h2 => h (P.okC_at h2 j hj)
  have HYes : Hid ((∀ j, j < l.length → P.stO l j) → P.okB l = true) := fun h => P.okB_yes (P.okC_of h)
  generalize P.okB l = ans at *
  go_enter Try.func28, Try.ntmps28
  go_wp2
  go_loopw [7] (fun i wr => ∃ (k : Nat), k ≤ l.length ∧ i = .int .i64 k ∧ (∀ j, j < k → P.stO l j) ∧ Below w.heap.size w wr) (fun i _ => l.length - (intOf i).toNat)
  case atStart => exact ⟨0, by omega, rfl, fun j hj => by omega, Below.refl _ _⟩
  case round =>
    obtain ⟨k, hk, rfl, heq, hB⟩ := hrel
    have HE := hide heq
    clear heq
    by_cases hlt : k < l.length
    · rcases hcase with h | ⟨b, off, rfl, hbs, hcell⟩
      · rw [h] at hlt; simp at hlt
      have j0 : (0 : Int) ≤ (k : Int) := by omega
      have j1 : (k : Int) < (l.length : Int) := by omega
      obtain ⟨x, hx⟩ : ∃ x, l[k]? = some x := ⟨_, List.getElem?_eq_getElem hlt⟩
      obtain ⟨g0, g1⟩ := RowC.at hcell hx
      have q0 := (hB.cell (p := ⟨b, off + k * 2, none⟩) hbs).trans g0
      have q1 := (hB.cell (p := ⟨b, off + k * 2 + 1, none⟩) hbs).trans g1
      have hw := hl x (List.mem_of_getElem? hx)
      have HX := hide (P.at_get (d := P.d0) hx)
      have HNok := hide (HNo.out k hlt)
      have HQ : Hid (∀ i y, l[i]? = some y → wr.cell? ⟨b, off + i * 2, none⟩ = some (.string y.1)) := fun i y hy => (hB.cell (p := ⟨b, off + i * 2, none⟩) hbs).trans (RowC.at hcell hy).1
      obtain ⟨xk, xn⟩ := x
      obtain ⟨hw0, hw1⟩ := hw
      simp only at q0 q1 hw0 hw1
      have HNx := hide (fun w => HN.out xn w)
      clear hcell g0 g1 HN HNo
      have hBW : Below w.heap.size w (wr.alloc (.cells #[.string xk, .int .i64 xn] 50)) := hB.alloc hB.size _
      have qb : (wr.alloc (.cells #[.string xk, .int .i64 xn] 50)).cell? ⟨wr.heap.size, 0, none⟩ = some (.string xk) := by simp
      have qb1 : (wr.alloc (.cells #[.string xk, .int .i64 xn] 50)).cell? ⟨wr.heap.size, 1, none⟩ = some (.int .i64 xn) := by simp
      by_cases h1 : 40 < xk.size
      · have HA : Hid (ans = false) := HNok.out fun h => by have := h.1.1; rw [HX.out] at this; simp only at this; omega
        have hd1 : decide (40 < (xk.size : Int)) = true := by simp; omega
        clear HNok HX HQ HNx h1
        go_wp2
        generalize wr.alloc (.cells #[.string xk, .int .i64 xn] 50) = W at qb qb1 hBW ⊢
        go_quiet (fail)
        go_wp2
        go_ret
        exact ⟨by rw [HA.out]; rfl, below_dn hBW _⟩
      have hd1 : decide (40 < (xk.size : Int)) = false := by simp; omega
      by_cases h2 : xn = 0
      · have HA : Hid (ans = false) := HNok.out fun h => by have := h.1.2.1; rw [HX.out] at this; simp only at this; omega
        have hd2 : (xn == 0) = true := by simpa using h2
        clear HNok HX HQ HNx h1 h2
        go_wp2
        generalize wr.alloc (.cells #[.string xk, .int .i64 xn] 50) = W at qb qb1 hBW ⊢
        go_quiet (fail)
        go_wp2
        go_ret
        exact ⟨by rw [HA.out]; rfl, below_dn hBW _⟩
      have hd2 : (xn == 0) = false := by simpa using h2
      by_cases h3 : 0 ≤ xn ∧ xn ≤ 1000000000
      · rw [decide_eq_true h3] at HNx
        have HO : Hid (P.ok1 (xk, xn)) := ⟨by show xk.size ≤ 40; omega, by show 0 < xn; omega, h3.2⟩
        clear h1 h2 h3
        by_cases hk0 : 0 < k
        · obtain ⟨i, hi⟩ : ∃ i, i + 1 = k := ⟨k - 1, by omega⟩
          have hil : i < l.length := by omega
          obtain ⟨y, hy⟩ : ∃ y, l[i]? = some y := ⟨_, List.getElem?_eq_getElem hil⟩
          have q2 := HQ.out i y hy
          have HY : Hid (l.getD (k - 1) P.d0 = y) := by show _ = _; rw [show k - 1 = i by omega]; exact P.at_get hy
          have qq := keep_alloc q2 (.cells #[.string xk, .int .i64 xn] 50)
          clear HQ hy q2
          obtain ⟨yk, yn⟩ := y
          simp only at qq
          have ei : IntKind.i64.wrap ((k : Int) - 1) = (i : Int) := by rw [IntKind.wrap_i64]; omega
          have j2 : (i : Int) < (l.length : Int) := by omega
          have j3 : (0 : Int) ≤ (i : Int) := by omega
          have j4 : (0 : Int) < (k : Int) := by omega
          have hk3 : decide (0 < (k : Int)) = true := by simpa using j4
          clear hi
          cases hle : P.kl yk xk with
          | true =>
            have HA : Hid (P.stO l k) := ⟨by rw [HX.out]; exact HO.out, .inr (by rw [HX.out, HY.out]; exact hle)⟩
            have hle2 : Op.bytesLess yk.toList xk.toList = true := hle
            clear hle HNok HX HY HO
            go_wp2
            generalize wr.alloc (.cells #[.string xk, .int .i64 xn] 50) = W at qb qb1 qq hBW ⊢
            go_quiet ((go_at_call 29; exact Calls.quiet_of_same (HNx.out _)))
            go_wp2
            go_roundw
            case rel =>
              refine ⟨k + 1, by omega, by go_num, fun j hj => ?_, below_dn hBW _⟩
              rcases Nat.lt_or_ge j k with h | h
              · exact HE.out j h
              · obtain rfl : j = k := by omega
                exact HA.out
            case measure => simp [intOf]; omega
          | false =>
            have HA : Hid (ans = false) := HNok.out fun h => by
              rcases h.2 with h2 | h2
              · omega
              · rw [HX.out, HY.out] at h2; simp only at h2; rw [hle] at h2; cases h2
            have hle2 : Op.bytesLess yk.toList xk.toList = false := hle
            clear hle HNok HX HY HO
            go_wp2
            generalize wr.alloc (.cells #[.string xk, .int .i64 xn] 50) = W at qb qb1 qq hBW ⊢
            go_quiet ((go_at_call 29; exact Calls.quiet_of_same (HNx.out _)))
            go_wp2
            go_ret
            exact ⟨by rw [HA.out]; rfl, below_dn hBW _⟩
        · have HA : Hid (P.stO l k) := ⟨by rw [HX.out]; exact HO.out, .inl (by omega)⟩
          have hk2 : decide (0 < (k : Int)) = false := by simp; omega
          clear HNok HX HO HQ
          go_wp2
          generalize wr.alloc (.cells #[.string xk, .int .i64 xn] 50) = W at qb qb1 hBW ⊢
          go_quiet ((go_at_call 29; exact Calls.quiet_of_same (HNx.out _)))
          go_wp2
          go_roundw
          case rel =>
            refine ⟨k + 1, by omega, by go_num, fun j hj => ?_, below_dn hBW _⟩
            rcases Nat.lt_or_ge j k with h | h
            · exact HE.out j h
            · obtain rfl : j = k := by omega
              exact HA.out
          case measure => simp [intOf]; omega
      · rw [decide_eq_false h3] at HNx
        have HA : Hid (ans = false) := HNok.out fun h => h3 (by have := h.1.2; rw [HX.out] at this; simp only at this; omega)
        clear HNok HX HQ h1 h2 h3
        go_wp2
        generalize wr.alloc (.cells #[.string xk, .int .i64 xn] 50) = W at qb qb1 hBW ⊢
        go_quiet ((go_at_call 29; exact Calls.quiet_of_same (HNx.out _)))
        go_wp2
        go_ret
        exact ⟨by rw [HA.out]; rfl, below_dn hBW _⟩
    · have hd : decide ((k : Int) < (l.length : Int)) = false := by simp; omega
      have HA : Hid (ans = true) := HYes.out fun j hj => HE.out j (by omega)
      go_wp2
      go_ret
      exact ⟨by rw [HA.out]; rfl, hB⟩
end Go.Proofs.Ytcaidfffmllfeaa
