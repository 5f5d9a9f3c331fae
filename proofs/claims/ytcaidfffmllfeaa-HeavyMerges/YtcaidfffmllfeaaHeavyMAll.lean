/- Several texts in one. -/
import Derived.Test.YtcaidfffmllfeaaHeavyLAll
import Derived.Test.YtcaidfffmllfeaaShelfSAll
import Derived.Sort.OwnSortedInts
import Derived.Deep.OwnRows
/- What common answers. -/
namespace Go.Proofs.Ytcaidfffmllfeaa
open Go.RowKit
set_option linter.unusedVariables false
abbrev OwnI (w : World) (base : Nat) (v : Value) (l : List Int) : Prop := OwnK 2 .i64 w base v l
open Go.Sort in
theorem sort_own (w : World) (base : Nat) (v : Value) (l : List Int) (h : OwnI w base v l) (hl : l.length < 4611686018427387904) :
    Calls Try.prog 56 #[v] w fun e w' => e = .returned (.tuple #[]) ∧ OwnI w' base v (P.srt l) ∧ w.grownBy w' v.ownBlock := by
  rcases h.2 with ⟨rfl, h0⟩ | ⟨g, cap, cur, rfl, hb, hg, hn, hm, hs, ht⟩
  · obtain rfl : l = [] := List.length_eq_zero_iff.1 h0
    refine (Try.sort_none none 0 w).mono ?_
    rintro e w' ⟨rfl, rfl⟩
    exact ⟨rfl, by simpa [P.srt] using h, ⟨rfl, rfl, rfl, Nat.le_refl _, fun _ _ _ => rfl⟩⟩
  · refine (Try.sort_some g cap l w (holds_of_blockI hg (by simpa using ht)) (Array.getElem?_eq_some_iff.1 hg).1 hl).mono ?_
    rintro e w' ⟨rfl, n, os, rfl⟩
    refine ⟨rfl, ?_, grownBy_sortedI _⟩
    have hl2 : (l.mergeSort fun x y => decide (x ≤ y)).length = l.length := by simp
    have := ownsRow_sortedI (n := n) (os := os) hl2 hb hg hn hm hs
    show World.ownsRow _ _ _ _ _ (l.mergeSort fun x y => decide (x ≤ y)).length _
    rw [hl2]; exact this
theorem below_own {w w1 w2 : World} {v : Value} {l : List Int} (hb : Below w.heap.size w w1) (ho : OwnI w1 w.heap.size v l) (hg : w1.grownBy w2 v.ownBlock) : Below w.heap.size w w2 := hb.grown hg hb.size (fun j hj => (ho.lt j hj).1)
theorem own_at {w : World} {base n cv : Nat} {av : Option Addr} {S : List Int} (h : OwnI w base (.slice av n cv) S) (j : Nat) (hj : j < S.length) : ∃ b off, av = some ⟨b, off, none⟩ ∧ w.cell? ⟨b, off + j, none⟩ = some (.int .i64 (S.getD j 0)) := by
  obtain ⟨a3, c3, hv3, _, hc3⟩ := OwnK.row h
  rcases hc3 with h0 | ⟨b, off, rfl, _, hc⟩
  · rw [h0] at hj; simp at hj
  · simp only [Value.slice.injEq] at hv3
    exact ⟨b, off, hv3.1, hc j hj⟩
/-- How the loop of common stands. -/
def ComAt (w : World) (l : List P.Ct) (i vl : Value) (wr : World) : Prop :=
  ∃ k : Nat, k ≤ l.length ∧ i = .int .i64 k ∧ OwnI wr w.heap.size vl ((l.take k).map (·.2)) ∧ Below w.heap.size w wr
set_option maxHeartbeats 1000000 in
theorem common_any (v : Value) (l : List P.Ct) (m : Nat) (w : World) (hr : RowC w v l) (hn : l.length ≤ 1000) (hm : 1 ≤ m) (hm2 : m ≤ l.length) :
    Calls Try.prog 38 #[v, .int .i64 m] w fun e w' => e = .returned (.int .i64 (P.thr l m)) ∧ Below w.heap.size w w' := by
  obtain ⟨a, cap, rfl, ⟨hlc, hmax, hnn⟩, hcase⟩ := hr
  unfold maxLen at hmax
  have HSo := hide (fun w base v l h hl => sort_own w base v l h hl)
  go_enter Try.func38, Try.ntmps38
  go_wp2
  go_loopw [10, 5] (fun i vl wr => ComAt w l i vl wr) (fun i _ _ => l.length - (intOf i).toNat)
  case atStart => exact ⟨0, by omega, rfl, OwnK.nil _ _ _ _, Below.refl _ _⟩
  case round =>
    obtain ⟨k, hk, rfl, hown, hb⟩ := hrel
    have hsz := hb.size
    by_cases hlt : k < l.length
    · rcases hcase with h | ⟨p, o, rfl, hpl, hc⟩
      · rw [h] at hlt; simp at hlt
      obtain ⟨y, hy⟩ : ∃ y, l[k]? = some y := ⟨_, List.getElem?_eq_getElem hlt⟩
      obtain ⟨g0, g1⟩ := RowC.at hc hy
      replace g0 := (hb.cell (p := ⟨p, o + k * 2, none⟩) hpl).trans g0
      replace g1 := (hb.cell (p := ⟨p, o + k * 2 + 1, none⟩) hpl).trans g1
      have HN : Hid ((l.take (k + 1)).map (·.2) = (l.take k).map (·.2) ++ [y.2]) := by show _ = _; rw [List.take_add_one, hy, List.map_append]; rfl
      have hlJ : ((l.take k).map (·.2)).length ≤ 1000 := by simp; omega
      obtain ⟨s0, s1⟩ := y
      simp only at g0 g1 HN
      generalize (l.take k).map (·.2) = J at *
      clear hc hy HSo
      have n0 : (0 : Int) ≤ (k : Int) := by omega
      have n1 : (k : Int) < (l.length : Int) := by omega
      have o5 := hown.below ((Below.refl _ _).alloc (Nat.le_refl _) (.cells #[.string s0, .int .i64 s1] 50)) (Nat.le_refl _)
      have b5 := hb.alloc hsz (.cells #[.string s0, .int .i64 s1] 50)
      have s5 := b5.size
      have z5 : (wr.alloc (.cells #[.string s0, .int .i64 s1] 50)).heap.size = wr.heap.size + 1 := by simp
      clear hown hb
      go_wp2_with (at_builtin; go_must (refine wp_app1K rfl (.tmp 14) (.tmp 17) 81 2 .i64 8 rfl Try.underlying81 Try.info2 (by decide) w.heap.size w.heap.size w (wr.alloc (.cells #[.string s0, .int .i64 s1] 50)) _ J s1 o5 b5 (Nat.le_refl _) rfl (show Value.slice (some ⟨wr.heap.size + 1, 0, none⟩) 1 1 = _ by rw [z5]) (by omega) s5 ?_); intro v' w6 own6 bl6 sz6 _)
      go_roundw
      case rel => exact ⟨k + 1, by omega, by go_num, by rw [HN.out]; exact own6, bl6⟩
      case measure => simp [intOf]; omega
    · have hd : decide ((k : Int) < (l.length : Int)) = false := by simp; omega
      obtain rfl : k = l.length := by omega
      rw [List.take_length] at hown
      clear hcase hnn
      have HL : Hid ((l.map (·.2)).length = l.length) := by show _ = _; simp
      have HS2 := hide (fun w base v h => HSo.out w base v (l.map (·.2)) h (by simp; omega))
      have HV : Hid (P.thr l m = (P.srt (l.map (·.2))).getD (l.length - m) 0) := rfl
      have HSL : Hid ((P.srt (l.map (·.2))).length = l.length) := by show _ = _; rw [P.srt_len]; simp
      generalize l.map (·.2) = M at *
      generalize P.srt M = S at *
      obtain ⟨av, cv, hv⟩ := OwnK.shape hown
      rw [hv] at hown ⊢
      rw [HL.out] at hown
      obtain ⟨j, hj⟩ : ∃ j, j + m = l.length := ⟨l.length - m, by omega⟩
      have HJ : Hid (l.length - m = j) := by show _ = _; omega
      have n0 : (0 : Int) ≤ (l.length : Int) - (m : Int) := by omega
      have n1 : (l.length : Int) - (m : Int) < (l.length : Int) := by omega
      have HJ2 : Hid (((l.length : Int) - (m : Int)).toNat = j) := by show _ = _; omega
      have hd : decide ((l.length : Int) < (l.length : Int)) = false := by simp
      have hjl : j < l.length := by omega
      clear hv hlt hj hm hm2
      rw [HL.out]
      go_wp2_with (go_at_call 56; go_must (refine (HS2.out _ _ _ hown).mono ?_); rintro e w2 ⟨rfl, own2, hg2⟩; have b2 := hide (below_own hb hown hg2); obtain ⟨b, off, rfl, q⟩ := own_at own2 (l.length - m) (by rw [HSL.out, HJ.out]; exact hjl))
      go_ret
      exact ⟨ret_int (by rw [HV.out, List.getD_eq_getElem?_getD]), b2.out⟩
end Go.Proofs.Ytcaidfffmllfeaa
