/- What soundLevels, count and Check answer. -/
import Derived.Test.YtlndbmenaaiogaaRankC
namespace Go.Proofs.Ytlndbmenaaiogaa
open Go.RowKit
set_option linter.unusedVariables false
namespace P
/-- Levels that are sound. -/
def OkL (k : Int) (L : List (List Int)) : Prop := ∀ l ∈ L, Inc l ∧ ((l.length : Int) = 0 ∨ (l.length : Int) = k)
open Classical in
noncomputable def slB (s : Rk) : Bool := decide (s.lv.length ≤ 20 ∧ OkL s.k s.lv ∧ Tip s.lv)
theorem slB_yes {s : Rk} (h : s.lv.length ≤ 20) (h2 : OkL s.k s.lv) (h3 : Tip s.lv) : slB s = true := by unfold slB; simp [h, h2, h3]
theorem slB_no {s : Rk} (h : ¬ (s.lv.length ≤ 20 ∧ OkL s.k s.lv ∧ Tip s.lv)) : slB s = false := by unfold slB; simpa using h
theorem okL_take {k : Int} {L : List (List Int)} {j : Nat} {l : List Int} (h : OkL k (L.take j)) (hj : L[j]? = some l) (hl : Inc l ∧ ((l.length : Int) = 0 ∨ (l.length : Int) = k)) : OkL k (L.take (j + 1)) := by
  intro m hm
  rw [List.take_add_one, hj] at hm
  simp only [Option.toList_some, List.mem_append, List.mem_singleton] at hm
  rcases hm with hm | rfl
  · exact h m hm
  · exact hl
theorem okL_lv {k : Int} {L : List (List Int)} (hk : 0 ≤ k) : OkL k L ↔ Lv k.toNat L := by
  unfold OkL Lv
  constructor
  · intro h l hl; have := h l hl; exact ⟨this.1, by omega⟩
  · intro h l hl; have := h l hl; exact ⟨this.1, by omega⟩
theorem cnt_max {L : List (List Int)} (h : ∀ l ∈ L, l.length ≤ 64) : cnt L + 64 ≤ 2 ^ L.length * 64 := by
  induction L with
  | nil => simp [cnt]
  | cons l r ih =>
    have h0 := ih fun m hm => h m (by simp [hm])
    have h1 := h l (by simp)
    rw [cnt, List.length_cons, Nat.pow_succ, Nat.mul_right_comm]
    generalize 2 ^ r.length * 64 = a at *
    omega
end P
theorem box5 {w : World} {c0 c1 c2 c3 c4 : Value} {t : TypeId} : (w.alloc (.cells #[c0, c1, c2, c3, c4] t)).cell? ⟨w.heap.size, 0, none⟩ = some c0 ∧ (w.alloc (.cells #[c0, c1, c2, c3, c4] t)).cell? ⟨w.heap.size, 1, none⟩ = some c1 ∧
    (w.alloc (.cells #[c0, c1, c2, c3, c4] t)).cell? ⟨w.heap.size, 2, none⟩ = some c2 ∧ (w.alloc (.cells #[c0, c1, c2, c3, c4] t)).cell? ⟨w.heap.size, 3, none⟩ = some c3 ∧ (w.alloc (.cells #[c0, c1, c2, c3, c4] t)).cell? ⟨w.heap.size, 4, none⟩ = some c4 := by simp
theorem RowK.nil_of {k : IntKind} {w : World} {v : Value} {l : List Int} (h : RowK k w v l) : ∃ a cap, v = .slice a l.length cap ∧ l.length ≤ cap ∧ cap ≤ maxLen := by
  obtain ⟨a, cap, hv, ⟨h1, h2, _⟩, _⟩ := h
  exact ⟨a, cap, hv, h1, h2⟩
set_option maxHeartbeats 2000000 in
theorem soundLevels_any (tv lv : Value) (s : P.Rk) (w : World) (hr : RkV w tv lv s) : Calls Try.prog 33 #[aggR tv lv s] w fun e w' => e = .returned (.bool (P.slB s)) ∧ Below w.heap.size w w' := by
  obtain ⟨al, cl, rfl, ⟨hlc, hmax⟩, hcase⟩ := hr.lv
  unfold maxLen at hmax
  obtain ⟨k, t, L, n, sl⟩ := s
  simp only at *
  have HSo := hide (fun v l w h => isSorted_any v l w h)
  have HB := hide ((Below.refl _ w).alloc (Nat.le_refl _) (.cells #[.int .i64 k, tv, .slice al L.length cl, .int .i64 n, .int .i64 sl] 25))
  obtain ⟨b0, b1, b2, b3, b4⟩ := box5 (w := w) (c0 := .int .i64 k) (c1 := tv) (c2 := .slice al L.length cl) (c3 := .int .i64 n) (c4 := .int .i64 sl) (t := 25)
  by_cases h20 : 20 < L.length
  · have hd : decide (20 < (L.length : Int)) = true := by simp; omega
    have HE : Hid (P.slB ⟨k, t, L, n, sl⟩ = false) := P.slB_no fun h => by have := h.1; simp only at this; omega
    clear hcase hr
    go_enter Try.func33, Try.ntmps33
    go_wp2
    go_ret
    exact ⟨by rw [HE.out]; rfl, HB.out⟩
  · have hd : decide (20 < (L.length : Int)) = false := by simp; omega
    have h20' : L.length ≤ 20 := by omega
    have HR := hide hr.lv
    clear h20 hr
    go_enter Try.func33, Try.ntmps33
    go_wp2
    generalize (w.alloc (.cells #[.int .i64 k, tv, .slice al L.length cl, .int .i64 n, .int .i64 sl] 25)) = W0 at *
    go_loopw [12] (fun i wr => ∃ (j : Nat), j ≤ L.length ∧ i = .int .i64 j ∧ P.OkL k (L.take j) ∧ ∃ q, wr = W0.drewN q) (fun i _ => L.length - (intOf i).toNat)
    case atStart => exact ⟨0, by omega, rfl, fun m hm => by simp at hm, 0, rfl⟩
    case round =>
      obtain ⟨j, hj, rfl, hok, q, rfl⟩ := hrel
      have HO := hide hok
      clear hok
      by_cases hlt : j < L.length
      · rcases hcase with h | ⟨b, off, rfl, hbs, hcell⟩
        · rw [h] at hlt; simp at hlt
        have j0 : (0 : Int) ≤ (j : Int) := by omega
        have j1 : (j : Int) < (L.length : Int) := by omega
        obtain ⟨l, hx⟩ : ∃ x, L[j]? = some x := ⟨_, List.getElem?_eq_getElem hlt⟩
        obtain ⟨vj, g0, hrow⟩ := hcell j l hx
        have g1 := (HB.out.cell (p := ⟨b, off + j, none⟩) hbs).trans g0
        have hrow1 := fun (q : Nat) => hrow.below (below_dn HB.out q) (Nat.le_refl _)
        have HI := hide (fun (q : Nat) => HSo.out vj l _ (hrow1 q))
        obtain ⟨ar, cr, rfl, hlr, hmr⟩ := hrow.nil_of
        unfold maxLen at hmr
        have HX := hide hx
        clear hcell hrow hrow1 g0 hx
        by_cases h0 : (l.length : Int) = 0
        · have e0 : ((l.length : Int) != 0) = false := by rw [bne_eq_false_iff_eq]; exact h0
          have HL : Hid (P.Inc l ∧ ((l.length : Int) = 0 ∨ (l.length : Int) = k)) := by
            have : l = [] := List.length_eq_zero_iff.1 (by omega)
            subst this; exact ⟨P.inc_nil, .inl rfl⟩
          have HT := hide (P.incB_yes HL.out.1)
          rw [HT.out] at HI
          clear h0
          go_wp2_with (go_at_call 48; go_must (refine (HI.out _).mono ?_); rintro e w' ⟨rfl, q2, rfl⟩)
          go_roundw
          case rel => exact ⟨j + 1, by omega, by go_num, P.okL_take HO.out HX.out HL.out, ⟨_, rfl⟩⟩
          case measure => simp [intOf]; omega
        · have e0 : ((l.length : Int) != 0) = true := by rw [bne_iff_ne]; exact h0
          by_cases h1 : (l.length : Int) = k
          · have e1 : ((l.length : Int) != k) = false := by rw [bne_eq_false_iff_eq]; exact h1
            by_cases hs : P.Inc l
            · have HL : Hid (P.Inc l ∧ ((l.length : Int) = 0 ∨ (l.length : Int) = k)) := ⟨hs, .inr h1⟩
              have HT := hide (P.incB_yes HL.out.1)
              rw [HT.out] at HI
              clear h0 h1 hs
              go_wp2_with (go_at_call 48; go_must (refine (HI.out _).mono ?_); rintro e w' ⟨rfl, q2, rfl⟩)
              go_roundw
              case rel => exact ⟨j + 1, by omega, by go_num, P.okL_take HO.out HX.out HL.out, ⟨_, rfl⟩⟩
              case measure => simp [intOf]; omega
            · have HT := hide (P.incB_no hs)
              have HE : Hid (P.slB ⟨k, t, L, n, sl⟩ = false) := P.slB_no fun h => hs (h.2.1 l (List.mem_of_getElem? HX.out)).1
              rw [HT.out] at HI
              clear h0 h1 hs
              go_wp2_with (go_at_call 48; go_must (refine (HI.out _).mono ?_); rintro e w' ⟨rfl, q2, rfl⟩)
              go_ret
              exact ⟨by rw [HE.out]; rfl, below_dn HB.out _⟩
          · have e1 : ((l.length : Int) != k) = true := by rw [bne_iff_ne]; exact h1
            have HE : Hid (P.slB ⟨k, t, L, n, sl⟩ = false) := P.slB_no fun h => by
              rcases (h.2.1 l (List.mem_of_getElem? HX.out)).2 with h2 | h2
              · exact h0 h2
              · exact h1 h2
            clear h0 h1
            go_wp2_with (go_at_call 48; go_must (refine (HI.out _).mono ?_); rintro e w' ⟨rfl, q2, rfl⟩)
            go_ret
            exact ⟨by rw [HE.out]; rfl, below_dn HB.out _⟩
      · have hd2 : decide ((j : Int) < (L.length : Int)) = false := by simp; omega
        obtain rfl : j = L.length := by omega
        rw [List.take_length] at HO
        by_cases hL : L = []
        · subst hL
          have HE : Hid (P.slB ⟨k, t, [], n, sl⟩ = true) := P.slB_yes (by simp) (fun m hm => by simp at hm) trivial
          go_wp2
          go_ret
          exact ⟨by rw [HE.out]; rfl, below_dn HB.out _⟩
        · have hpos : 0 < L.length := List.length_pos_iff.2 hL
          rcases hcase with h | ⟨b, off, rfl, hbs, hcell⟩
          · exact absurd h hL
          obtain ⟨p, hp⟩ : ∃ p, p + 1 = L.length := ⟨L.length - 1, by omega⟩
          have hlast : L[p]? = some (L.getD p []) := by simp [List.getD_eq_getElem?_getD, List.getElem?_eq_getElem (show p < L.length by omega)]
          obtain ⟨vj, g0, hrow⟩ := hcell p _ hlast
          have g1 := (HB.out.cell (p := ⟨b, off + p, none⟩) hbs).trans g0
          have HTip := hide (P.tip_iff L)
          have ep : L.length - 1 = p := by omega
          rw [ep] at HTip
          generalize L.getD p [] = l at *
          obtain ⟨ar, cr, rfl, hlr, hmr⟩ := hrow.nil_of
          unfold maxLen at hmr
          have e1 : IntKind.i64.wrap ((L.length : Int) - 1) = (p : Int) := by rw [IntKind.wrap_i64]; omega
          have e2 : ((L.length : Int) == 0) = false := by rw [beq_eq_false_iff_ne]; omega
          have j0 : (0 : Int) ≤ (p : Int) := by omega
          have j1 : (p : Int) < (L.length : Int) := by omega
          have HL := hide hL
          clear hcell hrow g0 hlast hL hp ep
          by_cases hl : l = []
          · have HE : Hid (P.slB ⟨k, t, L, n, sl⟩ = false) := P.slB_no fun h => by
              rcases HTip.out.1 h.2.2 with h2 | h2
              · exact HL.out h2
              · exact h2 hl
            have hd3 : decide (0 < l.length) = false := by rw [hl]; rfl
            clear hl
            go_wp2
            go_ret
            exact ⟨by rw [HE.out]; rfl, below_dn HB.out _⟩
          · have HE : Hid (P.slB ⟨k, t, L, n, sl⟩ = true) := P.slB_yes h20' HO.out (HTip.out.2 (.inr hl))
            have hd3 : decide (0 < l.length) = true := decide_eq_true (List.length_pos_iff.2 hl)
            clear hl
            go_wp2
            go_ret
            exact ⟨by rw [HE.out]; rfl, below_dn HB.out _⟩
set_option maxHeartbeats 1000000 in
theorem count_any (tv lv : Value) (s : P.Rk) (w : World) (hr : RkV w tv lv s) (h20 : s.lv.length ≤ 20) (ht : s.tail.length ≤ 64) (hl : ∀ l ∈ s.lv, l.length ≤ 64) :
    Calls Try.prog 34 #[aggR tv lv s] w fun e w' => e = .returned (.int .i64 ((s.tail.length + P.cnt s.lv : Nat) : Int)) ∧ Below w.heap.size w w' := by
  obtain ⟨al, cl, rfl, ⟨hlc, hmax⟩, hcase⟩ := hr.lv
  obtain ⟨at', ct, rfl, htc, hmt⟩ := hr.tail.nil_of
  unfold maxLen at hmax hmt
  obtain ⟨k, t, L, n, sl⟩ := s
  simp only at *
  have HW := hide (fun n lev w hn hl => weigh_any n lev w hn hl)
  have HB := hide ((Below.refl _ w).alloc (Nat.le_refl _) (.cells #[.int .i64 k, .slice at' t.length ct, .slice al L.length cl, .int .i64 n, .int .i64 sl] 25))
  obtain ⟨b0, b1, b2, b3, b4⟩ := box5 (w := w) (c0 := .int .i64 k) (c1 := .slice at' t.length ct) (c2 := .slice al L.length cl) (c3 := .int .i64 n) (c4 := .int .i64 sl) (t := 25)
  have hcnt : P.cnt L + 64 ≤ 2 ^ L.length * 64 := P.cnt_max hl
  have hp : 2 ^ L.length ≤ 2 ^ 20 := Nat.pow_le_pow_right (by omega) h20
  have HC : Hid (∀ j, P.cnt (L.take j) ≤ 67108864) := fun j => by have := P.cnt_take_le L j; omega
  have HLl := hide hl
  clear hr hl hcnt hp
  go_enter Try.func34, Try.ntmps34
  go_wp2
  generalize (w.alloc (.cells #[.int .i64 k, .slice at' t.length ct, .slice al L.length cl, .int .i64 n, .int .i64 sl] 25)) = W0 at *
  go_loop [12, 3] (fun i c => ∃ (j : Nat), j ≤ L.length ∧ i = .int .i64 j ∧ c = .int .i64 ((t.length + P.cnt (L.take j) : Nat) : Int)) (fun i _ => L.length - (intOf i).toNat)
  case atStart => exact ⟨0, by omega, rfl, by simp [P.cnt]⟩
  case round =>
    obtain ⟨j, hj, rfl, rfl⟩ := hrel
    by_cases hlt : j < L.length
    · rcases hcase with h | ⟨b, off, rfl, hbs, hcell⟩
      · rw [h] at hlt; simp at hlt
      have j0 : (0 : Int) ≤ (j : Int) := by omega
      have j1 : (j : Int) < (L.length : Int) := by omega
      obtain ⟨l, hx⟩ : ∃ x, L[j]? = some x := ⟨_, List.getElem?_eq_getElem hlt⟩
      obtain ⟨vj, g0, hrow⟩ := hcell j l hx
      have g1 := (HB.out.cell (p := ⟨b, off + j, none⟩) hbs).trans g0
      obtain ⟨ar, cr, rfl, hlr, hmr⟩ := hrow.nil_of
      unfold maxLen at hmr
      have hl64 := HLl.out l (List.mem_of_getElem? hx)
      have HI := hide (fun w => HW.out l.length j w hl64 (by omega))
      have HN := hide (P.cnt_take hx)
      have c0 := HC.out j
      have c1 := HC.out (j + 1)
      have hm : l.length * 2 ^ j ≤ 67108864 := by have := HN.out; rw [Nat.mul_comm]; omega
      clear hcell hrow g0 hx
      generalize hz : l.length * 2 ^ j = z at HI hm
      have HZ := hide hz
      clear hz
      have hs1 : (((t.length + P.cnt (L.take j) : Nat) : Int)) + (z : Int) ≤ 9223372036854775807 := by omega
      have hs0 : (0 : Int) ≤ (((t.length + P.cnt (L.take j) : Nat) : Int)) + (z : Int) := by omega
      generalize hacc : t.length + P.cnt (L.take j) = acc at *
      have HA := hide hacc
      clear hacc
      go_wp2_with (go_at_call 39; go_must (refine (HI.out _).mono ?_); rintro e w' ⟨rfl, rfl⟩)
      go_round
      case rel => exact ⟨j + 1, by omega, by go_num, by rw [HN.out, ← Nat.add_assoc, HA.out, Nat.mul_comm, HZ.out]; push_cast; rfl⟩
      case measure => simp [intOf]; omega
    · have hd2 : decide ((j : Int) < (L.length : Int)) = false := by simp; omega
      obtain rfl : j = L.length := by omega
      rw [List.take_length]
      generalize hacc : t.length + P.cnt L = acc
      have HA := hide hacc
      clear hacc
      go_wp2
      go_ret
      exact ⟨ret_int (by have := HA.out; omega), HB.out⟩
end Go.Proofs.Ytlndbmenaaiogaa
