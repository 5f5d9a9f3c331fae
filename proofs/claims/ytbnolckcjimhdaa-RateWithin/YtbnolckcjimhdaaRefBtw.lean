/- What the document's own Between answers. -/
import Derived.Test.YtbnolckcjimhdaaChunkC
import Derived.Test.YtbnolckcjimhdaaOneS
namespace Go.Proofs.Ytbnolckcjimhdaa
open Go.RowKit
set_option linter.unusedVariables false
theorem P.btw_snoc (l : List (Int × Int)) (f t : Int) (k : Nat) (hk : k < l.length) : P.btw (l.take (k + 1)) f t = P.btw (l.take k) f t ++ (if f ≤ (l.getD k (0, 0)).1 ∧ (l.getD k (0, 0)).1 < t then [l.getD k (0, 0)] else []) := by
  have e : l.getD k (0, 0) = l[k] := by simp [List.getD_eq_getElem?_getD, List.getElem?_eq_getElem hk]
  unfold P.btw
  rw [List.take_succ_eq_append_getElem hk, List.filter_append, e]
  congr 1
  by_cases h : f ≤ l[k].1 ∧ l[k].1 < t
  · rw [if_pos h, List.filter_cons_of_pos (by simp [h.1, h.2])]; rfl
  · rw [if_neg h, List.filter_cons_of_neg (by simp; intro h1; omega)]; rfl
/-- How the loop of Between stands. -/
def BtwAt (w : World) (l : List (Int × Int)) (f t : Int) (i vl : Value) (wr : World) : Prop :=
  ∃ k : Nat, k ≤ l.length ∧ i = .int .i64 k ∧ OwnS wr w.heap.size vl (P.btw (l.take k) f t) ∧ Below w.heap.size w wr
set_option maxHeartbeats 1000000 in
theorem between_any (v : Value) (l : List (Int × Int)) (f t : Int) (w : World) (hr : RowS w v l) (hn : l.length ≤ 1000) :
    Calls Try.prog 20 #[v, .int .i64 f, .int .i64 t] w fun e w' => ∃ v', e = .returned v' ∧ OwnS w' w.heap.size v' (P.btw l f t) ∧ Below w.heap.size w w' := by
  obtain ⟨a, cap, rfl, ⟨hlc, hmax, hnn⟩, hcase⟩ := hr
  unfold maxLen at hmax
  go_enter Try.func20, Try.ntmps20
  go_wp2
  go_loopw [12, 7] (fun i vl wr => BtwAt w l f t i vl wr) (fun i _ _ => l.length - (intOf i).toNat)
  case atStart => exact ⟨0, by omega, rfl, OwnS.nil _ _, Below.refl _ _⟩
  case round =>
    obtain ⟨k, hk, rfl, hown, hb⟩ := hrel
    have hsz := hb.size
    by_cases hlt : k < l.length
    · rcases hcase with h | ⟨p, o, rfl, hp, hc⟩
      · rw [h] at hlt; simp at hlt
      obtain ⟨g0, g1⟩ := hc k hlt
      replace g0 := (hb.cell (p := ⟨p, o + k * 2, none⟩) hp).trans g0
      replace g1 := (hb.cell (p := ⟨p, o + k * 2 + 1, none⟩) hp).trans g1
      have HN := hide (P.btw_snoc l f t k hlt)
      have hlJ : (P.btw (l.take k) f t).length ≤ 1000 := by have := P.btw_length (l.take k) f t; simp at this; omega
      generalize l.getD k (0, 0) = s at *
      obtain ⟨s0, s1⟩ := s
      simp only at g0 g1 HN
      generalize P.btw (l.take k) f t = J at *
      clear hc
      have hpr : p < wr.heap.size := by omega
      have n0 : (0 : Int) ≤ (k : Int) := by omega
      have n1 : (k : Int) < (l.length : Int) := by omega
      have o5 := hown.below ((Below.refl _ _).alloc (Nat.le_refl _) (.cells #[.int .i64 s0, .int .i64 s1] 37)) (Nat.le_refl _)
      have b5 := hb.alloc hsz (.cells #[.int .i64 s0, .int .i64 s1] 37)
      have s5 := b5.size
      have z5 : (wr.alloc (.cells #[.int .i64 s0, .int .i64 s1] 37)).heap.size = wr.heap.size + 1 := by simp
      clear hown hb
      by_cases h1 : f ≤ s0
      · by_cases h2 : s0 < t
        · rw [if_pos ⟨h1, h2⟩] at HN
          go_wp2_with (at_builtin; go_must (refine wp_oneS rfl (.tmp 26) (.tmp 28) rfl w.heap.size w.heap.size w (wr.alloc (.cells #[.int .i64 s0, .int .i64 s1] 37)) _ J (s0, s1) o5 b5 (Nat.le_refl _) rfl (show Value.slice (some ⟨wr.heap.size + 1, 0, none⟩) 1 1 = _ by rw [z5]) (by omega) s5 s5 ?_); intro v' w6 own6 bl6 sz6 _)
          go_roundw
          case rel => exact ⟨k + 1, by omega, by go_num, by rw [HN.out]; exact own6, bl6⟩
          case measure => simp [intOf]; omega
        · have t2 : decide (s0 < t) = false := by simpa using h2
          rw [if_neg (fun h => h2 h.2), List.append_nil] at HN
          go_wp2
          go_roundw
          case rel => exact ⟨k + 1, by omega, by go_num, by rw [HN.out]; exact o5, b5⟩
          case measure => simp [intOf]; omega
      · have t1 : decide (f ≤ s0) = false := by simpa using h1
        rw [if_neg (fun h => h1 h.1), List.append_nil] at HN
        go_wp2
        go_roundw
        case rel => exact ⟨k + 1, by omega, by go_num, by rw [HN.out]; exact o5, b5⟩
        case measure => simp [intOf]; omega
    · have hd : decide ((k : Int) < (l.length : Int)) = false := by simp; omega
      obtain rfl : k = l.length := by omega
      rw [List.take_length] at hown
      go_wp2
      go_ret
      exact ⟨_, rfl, hown, hb⟩
end Go.Proofs.Ytbnolckcjimhdaa
