/- Several texts in one. -/
import Derived.Test.YtenfpkokogfdaaaSkCkAll
import Derived.Test.YtenfpkokogfdaaaSkCeAll
import Derived.Test.YtenfpkokogfdaaaKitBSAll
/- What Count and Empty answer. -/
namespace Go.Proofs.Ytenfpkokogfdaaa
open Go.RowKit
set_option linter.unusedVariables false
namespace P
/-- What a key is told. -/
def tell (S : Sk) (q : ByteArray) : Int := least (fun i => hc S.w i q) S S.d
theorem SkGood.raw {S : Sk} (h : SkGood S) : GoodR S.raw := ⟨S, h, rfl⟩
theorem chk_raw {S : Sk} (h : SkGood S) : chkS S.raw = 0 := chkS_ok h.raw
theorem plc_at (w : Nat) (x : ByteArray) (d k : Nat) (h : k < d) : (plc w x d).getD k 0 = ((k * w + hc w k x : Nat) : Int) := by
  unfold plc
  simp [List.getD_eq_getElem?_getD, h]
theorem place_lt {S : Sk} (h : SkGood S) (q : ByteArray) {k : Nat} (hk : k < S.d) : k * S.w + hc S.w k q < S.c.length := by
  have h1 := hc_lt (w := S.w) (by have := h.w1; omega) k q
  have h2 : (k + 1) * S.w ≤ S.d * S.w := Nat.mul_le_mul_right _ hk
  rw [Nat.succ_mul] at h2
  rw [h.len]; omega
theorem SkGood.i64 {S : Sk} (h : SkGood S) : ∀ x ∈ S.c, -9223372036854775808 ≤ x ∧ x ≤ 9223372036854775807 := fun x hx => by
  obtain ⟨p, hp, rfl⟩ := List.getElem_of_mem hx
  have hX : 0 < S.w := by have := h.w1; omega
  have hp' : p < S.d * S.w := by rw [← h.len]; exact hp
  have hi : p / S.w < S.d := Nat.div_lt_of_lt_mul (by rw [Nat.mul_comm]; exact hp')
  have h3 : p / S.w * S.w + p % S.w = p := by rw [Nat.mul_comm]; exact Nat.div_add_mod p S.w
  have h4 := cell_le h hi (Nat.mod_lt p hX)
  rw [h3] at h4
  have h5 := h.n1
  have e : S.c.getD p 0 = S.c[p] := by simp [List.getD_eq_getElem?_getD, hp]
  rw [e] at h4
  omega
end P
theorem P.SkGood.rwI {S : P.Sk} (h : P.SkGood S) : RwI S.raw := by
  have h1 := h.d8; have h2 := h.w200; have h3 := h.n0; have h4 := h.n1
  refine ⟨?_, ?_, ?_, h.i64⟩
  · show _ ≤ (S.d : Int) ∧ (S.d : Int) ≤ _; omega
  · show _ ≤ (S.w : Int) ∧ (S.w : Int) ≤ _; omega
  · show _ ≤ S.n ∧ S.n ≤ _; omega
set_option maxRecDepth 100000 in
theorem Count_bad (cv : Value) (s : P.Rw) (q : ByteArray) (w : World) (hr : RowK .i64 w cv s.c) (hi : RwI s) (hb : ¬ P.GoodR s) :
    Calls Try.prog 11 #[aggS cv s, .string q] w fun e w' => e = .returned (.tuple #[.int .i64 0, .int .i64 4]) ∧ Below w.heap.size w w' := by
  have HB := hide ((Below.refl w.heap.size w).alloc (Nat.le_refl _) (.cells #[.int .i64 s.d, .int .i64 s.w, cv, .int .i64 s.n] 24))
  have HC := hide (Check_any cv s (w.alloc (.cells #[.int .i64 s.d, .int .i64 s.w, cv, .int .i64 s.n] 24)) (hr.below HB.out (Nat.le_refl _)) hi)
  rw [P.chkS_no hb] at HC
  clear hb hi
  obtain ⟨av, cap, rfl⟩ := hr.shp
  clear hr
  go_enter Try.func11, Try.ntmps11
  go_wp2_with (go_at_call 14; go_must (refine HC.out.mono ?_); rintro e w1 ⟨rfl, hb1⟩)
  have HB1 := hide (Below.next HB.out hb1)
  clear hb1
  go_wp2
  go_ret2
  exact ⟨rfl, HB1.out⟩
set_option maxRecDepth 100000 in
set_option maxHeartbeats 2000000 in
theorem Count_ok (cv : Value) (S : P.Sk) (q : ByteArray) (w : World) (hr : RowK .i64 w cv S.c) (hg : P.SkGood S) (hq : q.size ≤ 9223372036854775807) :
    Calls Try.prog 11 #[aggK cv S, .string q] w fun e w' => e = .returned (.tuple #[.int .i64 (P.tell S q), .int .i64 0]) ∧ Below w.heap.size w w' := by
  have HB := hide ((Below.refl w.heap.size w).alloc (Nat.le_refl _) (.cells #[.int .i64 S.d, .int .i64 S.w, cv, .int .i64 S.n] 24))
  have hrow1 := hr.below HB.out (Nat.le_refl _)
  have HC : Hid (Calls Try.prog 14 #[.agg #[.int .i64 S.d, .int .i64 S.w, cv, .int .i64 S.n]] (w.alloc (.cells #[.int .i64 S.d, .int .i64 S.w, cv, .int .i64 S.n] 24)) fun e w' => e = .returned (.int .i64 0) ∧ Below (w.alloc (.cells #[.int .i64 S.d, .int .i64 S.w, cv, .int .i64 S.n] 24)).heap.size (w.alloc (.cells #[.int .i64 S.d, .int .i64 S.w, cv, .int .i64 S.n] 24)) w') := by
    have := Check_any cv S.raw (w.alloc (.cells #[.int .i64 S.d, .int .i64 S.w, cv, .int .i64 S.n] 24)) hrow1 hg.rwI
    rw [P.chk_raw hg] at this
    exact this
  have HCe := hide (fun wx => cells_any cv S.d S.w S.n q wx hg.d8 hg.w1 hg.w200 hq)
  have HPl := hide (P.plc_len S.w q S.d)
  have HAt := hide (P.plc_at S.w q S.d)
  have HLt := hide (fun k (h : k < S.d) => P.place_lt hg q h)
  have HBd := hide (fun k (h : k ≤ S.d) => P.least_bound hg (h := fun i => P.hc S.w i q) (fun i hi => P.hc_lt (by have := hg.w1; omega) i q) k h)
  have HGn := hide hg.n1
  have c3 : (w.alloc (.cells #[.int .i64 S.d, .int .i64 S.w, cv, .int .i64 S.n] 24)).cell? ⟨w.heap.size, 3, none⟩ = some (.int .i64 S.n) := by simp
  have c2 : (w.alloc (.cells #[.int .i64 S.d, .int .i64 S.w, cv, .int .i64 S.n] 24)).cell? ⟨w.heap.size, 2, none⟩ = some cv := by simp
  have c1 : (w.alloc (.cells #[.int .i64 S.d, .int .i64 S.w, cv, .int .i64 S.n] 24)).cell? ⟨w.heap.size, 1, none⟩ = some (.int .i64 S.w) := by simp
  have c0 : (w.alloc (.cells #[.int .i64 S.d, .int .i64 S.w, cv, .int .i64 S.n] 24)).cell? ⟨w.heap.size, 0, none⟩ = some (.int .i64 S.d) := by simp
  obtain ⟨a, cap, rfl, ⟨hlc, hmax, _⟩, hcase⟩ := hr
  unfold maxLen at hmax
  have hlen := hg.len
  have hd1 := hg.d1
  have hw1 := hg.w1
  have hpos : 0 < S.d * S.w := Nat.mul_pos hd1 hw1
  rcases hcase with h | ⟨b, off, rfl, hbs, hcell⟩
  · rw [h] at hlen; simp at hlen; omega
  clear hrow1 hg hlen hpos
  go_enter Try.func11, Try.ntmps11
  go_upto_region 2 with fail
  generalize w.alloc (.cells #[.int .i64 S.d, .int .i64 S.w, .slice (some ⟨b, off, none⟩) S.c.length cap, .int .i64 S.n] 24) = W1 at *
  refine HC.out.mono ?_
  rintro e w2 ⟨rfl, hb2⟩
  replace c0 := keep_cell c0 hb2
  replace c1 := keep_cell c1 hb2
  replace c2 := keep_cell c2 hb2
  replace c3 := keep_cell c3 hb2
  have HB2 := hide (Below.next HB.out hb2)
  have HC2 := hide (HCe.out w2)
  clear HC HB hb2 HCe
  go_wp2_with fail
  refine HC2.out.mono ?_
  rintro e w3 ⟨pv, rfl, own3, hb3⟩
  replace c0 := keep_cell c0 hb3
  replace c1 := keep_cell c1 hb3
  replace c2 := keep_cell c2 hb3
  replace c3 := keep_cell c3 hb3
  have HB3 := hide (Below.next HB2.out hb3)
  clear HC2 HB2 hb3
  obtain ⟨pa, pc, hpv, ⟨hpl1, hpl2, _⟩, hpcase⟩ := own3.row
  rw [HPl.out] at hpv hpl1
  subst hpv
  unfold maxLen at hpl2
  rcases hpcase with h | ⟨pb, po, rfl, hpbs, hpcell⟩
  · have h2 := HPl.out; rw [h] at h2; simp at h2; omega
  have HPc : Hid (∀ k, k < S.d → w3.cell? ⟨pb, po + k, none⟩ = some (.int .i64 ((k * S.w + P.hc S.w k q : Nat) : Int))) := fun k hk => by
    have := hpcell k (by rw [HPl.out]; exact hk)
    rw [HAt.out k hk] at this; exact this
  have HCc : Hid (∀ j, j < S.c.length → w3.cell? ⟨b, off + j, none⟩ = some (.int .i64 (S.c.getD j 0))) := fun j hj => (HB3.out.cell (p := ⟨b, off + j, none⟩) hbs).trans (hcell j hj)
  clear hpcell own3 hcell
  go_wp2
  go_loop [7, 21] (fun m i => ∃ k : Nat, k ≤ S.d ∧ i = .int .i64 k ∧ m = .int .i64 (P.least (fun i => P.hc S.w i q) S k)) (fun _ i => S.d - (intOf i).toNat)
  case atStart => exact ⟨0, by omega, rfl, rfl⟩
  case round =>
    obtain ⟨k, hk, rfl, rfl⟩ := hrel
    by_cases hlt : k < S.d
    · have j0 : (0 : Int) ≤ (k : Int) := by omega
      have j1 : (k : Int) < (S.d : Int) := by omega
      have p0 := HPc.out k hlt
      have hplt := HLt.out k hlt
      have q0 := HCc.out _ hplt
      have HBk := hide (HBd.out k (by omega))
      have HSt : Hid (P.least (fun i => P.hc S.w i q) S (k + 1) = min (P.least (fun i => P.hc S.w i q) S k) (S.c.getD (k * S.w + P.hc S.w k q) 0)) := rfl
      generalize P.least (fun i => P.hc S.w i q) S k = m at *
      generalize S.c.getD (k * S.w + P.hc S.w k q) 0 = c at *
      generalize k * S.w + P.hc S.w k q = p at *
      have j2 : (0 : Int) ≤ (p : Int) := by omega
      have j3 : (p : Int) < (S.c.length : Int) := by omega
      by_cases hmc : c < m
      · have HM : Hid (P.least (fun i => P.hc S.w i q) S (k + 1) = c) := by show _ = _; rw [HSt.out]; omega
        clear HSt
        have hd : decide (c < m) = true := by simpa using hmc
        go_wp2
        go_round
        case rel => exact ⟨k + 1, by omega, by go_num, by rw [HM.out]⟩
        case measure => simp [intOf]; omega
      · have HM : Hid (P.least (fun i => P.hc S.w i q) S (k + 1) = m) := by show _ = _; rw [HSt.out]; omega
        clear HSt
        have hd : decide (c < m) = false := by simpa using hmc
        go_wp2
        go_round
        case rel => exact ⟨k + 1, by omega, by go_num, by rw [HM.out]⟩
        case measure => simp [intOf]; omega
    · obtain rfl : k = S.d := by omega
      have hd2 : decide ((S.d : Int) < (S.d : Int)) = false := by simp
      go_wp2
      go_ret2
      exact ⟨rfl, HB3.out⟩
end Go.Proofs.Ytenfpkokogfdaaa
