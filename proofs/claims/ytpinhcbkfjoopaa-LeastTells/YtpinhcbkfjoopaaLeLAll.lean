/- Several texts in one. -/
import Derived.Test.YtpinhcbkfjoopaaCatUAll
import Derived.Test.YtpinhcbkfjoopaaCmpUAll
import Derived.Test.YtpinhcbkfjoopaaLeCAll
/- What leastOf answers: the k least of two rows, each once, rising. -/
namespace Go.Proofs.Ytpinhcbkfjoopaa
open Go.RowKit
set_option linter.unusedVariables false
/-- The k least of both. -/
def lstU (k : Nat) (a b : List Int) : List Int := (ordU (a ++ b)).take k
theorem lstU_bot (k : Nat) (a b : List Int) : P.Bot k (fun x => x ∈ a ∨ x ∈ b) (lstU k a b) := by
  have hu := ordU_up (a ++ b)
  refine ⟨hu.sublist (List.take_sublist _ _), by unfold lstU; rw [List.length_take]; omega, fun x hx => ?_, fun x hx => ?_⟩
  · have := (ordU_mem _ _).1 (List.mem_of_mem_take hx)
    simpa using this
  · have h1 : x ∈ ordU (a ++ b) := (ordU_mem _ _).2 (by simpa using hx)
    rcases P.up_take hu k x h1 with h | ⟨h2, h3⟩
    · exact .inl h
    · exact .inr ⟨by unfold lstU; rw [List.length_take]; omega, h3⟩
/-- The beginning of a row of one's own. -/
theorem OwnU.take {w : World} {base : Nat} {a : Option Addr} {n cap : Nat} {l : List Int} (h : OwnU w base (.slice a n cap) l) (k : Nat) (hk : k ≤ l.length) : OwnU w base (.slice a k cap) (l.take k) := by
  have hl : (l.take k).length = k := by simp; omega
  rcases h.2 with ⟨hv, h0⟩ | ⟨g, cap', cur, hv, hb, hg, hn, hm, hs, ht⟩
  · simp only [Value.slice.injEq] at hv
    obtain ⟨rfl, rfl, rfl⟩ := hv
    obtain rfl : k = 0 := by omega
    rw [List.take_zero]
    exact OwnK.nil _ _ _ _
  · simp only [Value.slice.injEq] at hv
    obtain ⟨rfl, rfl, rfl⟩ := hv
    refine ⟨by simp, .inr ⟨g, cap, cur, by rw [hl], hb, hg, by rw [hl]; omega, hm, hs, ?_⟩⟩
    rw [hl, Nat.mul_one, List.map_take, ← ht, List.take_take, Nat.mul_one, Nat.min_eq_left hk]
theorem OwnU.capP {w : World} {base : Nat} {a : Option Addr} {n cap : Nat} {l : List Int} (h : OwnU w base (.slice a n cap) l) : n ≤ cap := by
  rcases h.2 with ⟨hv, h0⟩ | ⟨g, cap', cur, hv, hb, hg, hn, hm, hs, ht⟩
  · simp only [Value.slice.injEq] at hv; omega
  · simp only [Value.slice.injEq] at hv; omega
set_option maxHeartbeats 4000000 in
set_option maxRecDepth 100000 in
theorem leastOf_any (k : Nat) (va vb : Value) (a b : List Int) (w : World) (hk : k ≤ 64) (ha : RowK .u64 w va a) (hb : RowK .u64 w vb b) (hn : (a.length + b.length) * 8 ≤ 281474976710656) :
    Calls Try.prog 30 #[.int .i64 k, va, vb] w fun e w' => ∃ v, e = .returned v ∧ OwnU w' w.heap.size v (lstU k a b) ∧ Below w.heap.size w w' := by
  have HC := hide (concat_any _ _ _ (by simp) (rows_twoU w va vb a b 22 ha hb) (by simp [flt]; exact hn))
  have HB0 := hide ((Below.refl w.heap.size w).alloc (Nat.le_refl _) (.cells #[va, vb] 22))
  have hfl : flt [a, b] = a ++ b := by simp [flt]
  rw [hfl] at HC
  obtain ⟨l, hl⟩ : ∃ l, a ++ b = l := ⟨_, rfl⟩
  have hll : l.length ≤ 1152921504606846976 := by rw [← hl]; simp; omega
  obtain ⟨r, hr⟩ : ∃ r, ordU l = r := ⟨_, rfl⟩
  have hrl : r.length ≤ 1152921504606846976 := by rw [← hr]; exact Nat.le_trans (ordU_len l) hll
  have HS := hide (fun wx v base (h : OwnU wx base v l) => sort_own wx base v l h hll)
  have HK := hide (fun wx v base (h : OwnU wx base v (srtU l)) => compact_own wx base v (srtU l) h (by rw [srtU_len]; exact hll))
  have hro : dd (srtU l) = r := hr
  unfold lstU
  rw [hl] at HC ⊢
  rw [hr]
  rw [hro] at HK
  clear hfl hl hr hro hll hn
  obtain ⟨aa, ac, rfl⟩ := ha.shp
  obtain ⟨ba, bc, rfl⟩ := hb.shp
  clear ha hb
  go_enter Try.func30, Try.ntmps30
  go_wp2_with fail
  refine HC.out.mono ?_
  rintro e w1 ⟨v1, rfl, own1, hb1⟩
  have own1 := own1.base (show w.heap.size ≤ _ by simp)
  have HB1 := hide (HB0.out.trans (hb1.mono (show w.heap.size ≤ _ by simp)))
  clear HB0 HC hb1
  obtain ⟨a1, c1, rfl⟩ := own1.shape
  have HS1 := hide (HS.out _ _ _ own1)
  clear HS own1
  go_wp2_with fail
  refine HS1.out.mono ?_
  rintro e w2 ⟨rfl, own2, hb2⟩
  have HB2 := hide (HB1.out.trans hb2)
  have HK2 := hide (HK.out _ _ _ own2)
  clear HB1 hb2 HK own2 HS1
  go_wp2_with fail
  refine HK2.out.mono ?_
  rintro e w3 ⟨v3, rfl, own3, hb3⟩
  have HB3 := hide (HB2.out.trans hb3)
  clear HB2 hb3 HK2
  obtain ⟨a3, c3, rfl⟩ := own3.shape
  have hcp := own3.capP
  by_cases hkr : k ≤ r.length
  · have hmin : min (k : Int) (r.length : Int) = (k : Int) := by omega
    have HO := hide (own3.take k hkr)
    have i0 : (0 : Int) ≤ (k : Int) := by omega
    have i1 : k ≤ c3 := by omega
    have i2 : (k : Int) ≤ (c3 : Int) := by omega
    clear own3
    go_wp2
    go_ret
    exact ⟨_, rfl, HO.out, HB3.out⟩
  · have hmin : min (k : Int) (r.length : Int) = (r.length : Int) := by omega
    have HO : Hid (OwnU w3 w.heap.size (.slice a3 r.length c3) (r.take k)) := hide (by rw [List.take_of_length_le (by omega)]; exact own3)
    have i0 : (0 : Int) ≤ (r.length : Int) := by omega
    have i2 : (r.length : Int) ≤ (c3 : Int) := by omega
    clear own3
    go_wp2
    go_ret
    exact ⟨_, rfl, HO.out, HB3.out⟩
end Go.Proofs.Ytpinhcbkfjoopaa
