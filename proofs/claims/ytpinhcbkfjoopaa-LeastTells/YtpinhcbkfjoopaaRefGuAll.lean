/- Several texts in one. -/
import Derived.Test.YtpinhcbkfjoopaaRefSvAll
import Derived.Test.YtpinhcbkfjoopaaLeGAll
/- What the document's own GuessOf answers: the long division, bit by bit. -/
namespace Go.Proofs.Ytpinhcbkfjoopaa
open Go.RowKit
set_option linter.unusedVariables false
set_option linter.unusedSimpArgs false
namespace P
/-- How the division stands behind i bits. -/
structure Dv (n d i r q : Nat) : Prop where
  q : q = n * 2 ^ i / d
  r : r = n * 2 ^ i % d
theorem Dv.next {n d i r q : Nat} (h : Dv n d i r q) (hd : 0 < d) : Dv n d (i + 1) (2 * r - if d ≤ 2 * r then d else 0) (2 * q + if d ≤ 2 * r then 1 else 0) := by
  obtain ⟨h1, h2⟩ := div_step n d hd i
  exact ⟨by rw [h1, h.q, h.r], by rw [h2, h.r]⟩
theorem Dv.low {n d i r q : Nat} (h : Dv n d i r q) (hn : n < d) (hi : i ≤ 64) : q < 18446744073709551616 ∧ r < d := by
  refine ⟨?_, by rw [h.r]; exact Nat.mod_lt _ (by omega)⟩
  rw [h.q, Nat.div_lt_iff_lt_mul (by omega)]
  have hp : 2 ^ i ≤ 2 ^ 64 := Nat.pow_le_pow_right (by decide) hi
  have h0 : 0 < 2 ^ i := Nat.two_pow_pos i
  have h1 : n * 2 ^ i < d * 2 ^ i := Nat.mul_lt_mul_of_pos_right hn h0
  have h2 : d * 2 ^ i ≤ d * 18446744073709551616 := Nat.mul_le_mul_left d hp
  omega
end P
set_option maxRecDepth 100000 in
set_option maxHeartbeats 8000000 in
theorem GuessOf_any (lv : Value) (k : Nat) (l : List Int) (w : World) (hr : RowK .u64 w lv l) (hg : P.LsGood ⟨k, l⟩) (hu : U64 l) :
    Calls Try.prog 17 #[aggL lv ⟨k, l⟩] w fun e w' => e = .returned (.int .u64 (P.gs k l : Nat)) ∧ Below w.heap.size w w' := by
  have hk := hg.k64
  have hk2 := hg.k2
  have hl := hg.len
  have hup := hg.up
  simp only at hk hk2 hl hup
  have hb := below_nw w (.cells #[.int .i64 k, lv] 24)
  have hrow := hr.below hb (Nat.le_refl _)
  have HB := hide hb
  have HX : BoxL (w.alloc (.cells #[.int .i64 k, lv] 24)) w.heap.size lv ⟨k, l⟩ := BoxL.new w lv ⟨k, l⟩
  obtain ⟨x0, x1⟩ := HX.cells
  simp only at x0
  obtain ⟨la, lc, rfl⟩ := hr.shp
  clear hr hg hb HX
  obtain ⟨j, hj⟩ : ∃ j, j + 1 = k := ⟨k - 1, by omega⟩
  have ek : IntKind.i64.wrap ((k : Int) - 1) = (j : Int) := by rw [IntKind.wrap_i64]; omega
  have eku : IntKind.u64.wrap ((j : Int)) = (j : Int) := by rw [IntKind.wrap_u64]; omega
  have HJ := hide hj
  have hj64 : j ≤ 63 := by omega
  have hj1 : 1 ≤ j := by omega
  by_cases hlt : l.length < k
  · have hd : decide ((l.length : Int) < (k : Int)) = true := by simp; omega
    have HG : Hid (P.gs k l = l.length) := hide (by unfold P.gs; rw [if_pos hlt])
    have ew : IntKind.u64.wrap ((l.length : Int)) = (l.length : Int) := by rw [IntKind.wrap_u64]; omega
    clear hrow hup hu hj
    go_enter Try.func17, Try.ntmps17
    go_wp2
    go_ret
    rw [HG.out]
    exact ⟨rfl, HB.out⟩
  · have hd : decide ((l.length : Int) < (k : Int)) = false := by simp; omega
    have hjl : j < l.length := by omega
    obtain ⟨a', c', hv, _, hcase⟩ := hrow
    simp only [Value.slice.injEq] at hv
    obtain ⟨rfl, _, rfl⟩ := hv
    rcases hcase with h | ⟨b, off, rfl, hbs, hcell⟩
    · rw [h] at hjl; simp at hjl
    have c1 := hcell j hjl
    have hgr := up_great hup (fun x hx => (hu x hx).1) j hjl
    have hub := hu.at j
    have HGS : Hid (P.gs k l = if l.getD j 0 = 18446744073709551615 then j else j * 18446744073709551616 / ((l.getD j 0).toNat + 1)) := hide (by unfold P.gs; rw [if_neg hlt, show k - 1 = j by omega])
    obtain ⟨g, hgg⟩ : ∃ g : Nat, l.getD j 0 = g := ⟨(l.getD j 0).toNat, by omega⟩
    rw [hgg] at c1 HGS hgr hub
    have j0 : (0 : Int) ≤ (j : Int) := by omega
    have j1 : (j : Int) < (l.length : Int) := by omega
    clear hcell hgg hup hu hj
    by_cases hmax : g = 18446744073709551615
    · have hd2 : ((g : Int) == 18446744073709551615) = true := by simp; omega
      have HG : Hid (P.gs k l = j) := hide (by rw [HGS.out, if_pos (by omega)])
      clear HGS
      go_enter Try.func17, Try.ntmps17
      go_wp2
      go_ret
      rw [HG.out]
      exact ⟨rfl, HB.out⟩
    · have hd2 : ((g : Int) == 18446744073709551615) = false := by simp; omega
      have HG : Hid (P.gs k l = j * 18446744073709551616 / (g + 1)) := hide (by rw [HGS.out, if_neg (by omega)]; simp)
      obtain ⟨d, hd1⟩ : ∃ d, d = g + 1 := ⟨_, rfl⟩
      have eg : IntKind.u64.wrap ((g : Int) + 1) = (d : Int) := by rw [IntKind.wrap_u64]; omega
      have hjd : j < d := by omega
      have hd64 : d < 18446744073709551616 := by omega
      have hd3 : decide ((d : Int) ≤ (j : Int)) = false := by simp; omega
      have hd3n : decide (d ≤ j) = false := by simp; omega
      rw [← hd1] at HG
      clear HGS hd1
      have HD0 : Hid (P.Dv j d 0 j 0) := hide ⟨by rw [Nat.pow_zero, Nat.mul_one, Nat.div_eq_of_lt hjd], by rw [Nat.pow_zero, Nat.mul_one, Nat.mod_eq_of_lt hjd]⟩
      go_enter Try.func17, Try.ntmps17
      go_wp2
      go_loopw [5, 6, 40] (fun rv qv iv wr => ∃ i r q : Nat, rv = .int .u64 r ∧ qv = .int .u64 q ∧ iv = .int .i64 i ∧ i ≤ 64 ∧ Hid (P.Dv j d i r q) ∧ Below w.heap.size w wr) (fun _ _ iv _ => 64 - (intOf iv).toNat)
      case atStart => exact ⟨0, j, 0, rfl, rfl, rfl, by omega, HD0, HB.out⟩
      case round =>
        clear HD0 x0 x1 c1
        obtain ⟨i, r, q, rfl, rfl, rfl, hi, HD, hB⟩ := hrel
        by_cases hi64 : i < 64
        · have hdi : decide ((i : Int) < 64) = true := by simp; omega
          have hn := HD.out.next (by omega)
          have hlow := HD.out.low hjd hi
          have hlow2 := hn.low hjd (by omega)
          obtain ⟨t, ht⟩ : ∃ t, t = (r + r) % 18446744073709551616 := ⟨_, rfl⟩
          obtain ⟨q2, hq2⟩ : ∃ q2, q2 = q + q := ⟨_, rfl⟩
          have et : IntKind.u64.wrap ((r : Int) + (r : Int)) = (t : Int) := by rw [IntKind.wrap_u64]; omega
          by_cases hc : d ≤ 2 * r
          · rw [if_pos hc, if_pos hc] at hn hlow2
            have eq2 : IntKind.u64.wrap ((q : Int) + (q : Int)) = (q2 : Int) := by rw [IntKind.wrap_u64]; omega
            obtain ⟨q3, hq3⟩ : ∃ q3, q3 = 2 * q + 1 := ⟨_, rfl⟩
            obtain ⟨r3, hr3⟩ : ∃ r3, r3 = 2 * r - d := ⟨_, rfl⟩
            have eq3 : IntKind.u64.wrap ((q2 : Int) + 1) = (q3 : Int) := by rw [IntKind.wrap_u64]; omega
            have er3 : IntKind.u64.wrap ((t : Int) - (d : Int)) = (r3 : Int) := by rw [IntKind.wrap_u64]; omega
            rw [← hq3, ← hr3] at hn
            have HN := hide hn
            by_cases ho : 9223372036854775808 ≤ r
            · have hdo : decide (9223372036854775808 ≤ (r : Int)) = true := by simp; omega
              clear hn hlow hlow2 ht hq2 hq3 hr3 hc ho
              go_wp2
              go_roundw
              case rel => exact ⟨i + 1, r3, q3, rfl, rfl, by go_num, by omega, HN, hB⟩
              case measure => simp [intOf]; omega
            · have hdo : decide (9223372036854775808 ≤ (r : Int)) = false := by simp; omega
              have hdt : decide ((d : Int) ≤ (t : Int)) = true := by simp; omega
              have hdtn : decide (d ≤ t) = true := by simp; omega
              have hdtm : d ≤ t := by omega
              clear hn hlow hlow2 ht hq2 hq3 hr3 hc ho
              go_wp2
              go_roundw
              case rel => exact ⟨i + 1, r3, q3, rfl, rfl, by go_num, by omega, HN, hB⟩
              case measure => simp [intOf]; omega
          · rw [if_neg hc, if_neg hc] at hn hlow2
            have eq2 : IntKind.u64.wrap ((q : Int) + (q : Int)) = (q2 : Int) := by rw [IntKind.wrap_u64]; omega
            have hdo : decide (9223372036854775808 ≤ (r : Int)) = false := by simp; omega
            have hdt : decide ((d : Int) ≤ (t : Int)) = false := by simp; omega
            have hdtn : decide (d ≤ t) = false := by simp; omega
            have hdtm : ¬ d ≤ t := by omega
            have HN : Hid (P.Dv j d (i + 1) t q2) := hide (by rw [show t = 2 * r - 0 by omega, show q2 = 2 * q + 0 by omega]; exact hn)
            clear hn hlow hlow2 ht hq2 hc
            go_wp2
            go_roundw
            case rel => exact ⟨i + 1, t, q2, rfl, rfl, by go_num, by omega, HN, hB⟩
            case measure => simp [intOf]; omega
        · have hdi : decide ((i : Int) < 64) = false := by simp; omega
          obtain rfl : i = 64 := by omega
          have HQ : Hid (P.gs k l = q) := hide (by rw [HG.out, HD.out.q])
          clear HG HD
          go_wp2
          go_ret
          rw [HQ.out]
          exact ⟨rfl, hB⟩
end Go.Proofs.Ytpinhcbkfjoopaa
