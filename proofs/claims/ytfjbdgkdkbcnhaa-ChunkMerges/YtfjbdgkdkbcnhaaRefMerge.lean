/- What the document's own MergedSamples answers. -/
import Derived.Test.YtfjbdgkdkbcnhaaChunkC
import Derived.Test.YtfjbdgkdkbcnhaaMergeK
namespace Go.Proofs.Ytfjbdgkdkbcnhaa
open Go.RowKit
set_option linter.unusedVariables false
/-- How the loop of MergedSamples stands. -/
def MerAt (w : World) (a b : List (Int × Int)) (i vo : Value) (wr : World) : Prop :=
  ∃ k : Nat, k ≤ b.length ∧ i = .int .i64 k ∧ OwnS wr w.heap.size vo (P.mrg a (b.take k)) ∧ Below w.heap.size w wr
set_option maxHeartbeats 4000000 in
theorem merged_any (va vb : Value) (a b : List (Int × Int)) (w : World) (ha : RowS w va a) (hb : RowS w vb b) (hra : P.Ris a) (hrb : P.Ris b) (hla : a.length ≤ 1000) (hlb : b.length ≤ 1000) :
    Calls Try.prog 10 #[va, vb] w fun e w' => ∃ v', e = .returned v' ∧ OwnS w' w.heap.size v' (P.mrg a b) ∧ Below w.heap.size w w' := by
  have HA := hide ha
  obtain ⟨xa, ca, hva⟩ := ha.shp
  rw [hva] at HA ⊢
  clear ha hva
  obtain ⟨xb, cb, rfl, ⟨hlc, hmax, hnn⟩, hcase⟩ := hb
  unfold maxLen at hmax
  have HStep := hide (fun k hk => P.mrg_step hra hrb k hk)
  have HRis := hide (fun k => P.mrg_ris a (b.take k) hra (hrb.sublist (List.take_sublist k b)))
  have HLen := hide (fun k => P.mrg_length a (b.take k))
  clear hra hrb
  go_enter Try.func10, Try.ntmps10
  go_wp2_with (at_builtin; go_must (refine wp_appS rfl _ _ rfl w.heap.size w.heap.size w w _ _ [] a (OwnS.nil _ _) HA.out (Below.refl _ _) (Nat.le_refl _) rfl rfl (by simp; omega) (Nat.le_refl _) ?_); intro v0 w0 own0 hb0 _ _)
  go_loopw [13, 5] (fun i vo wr => MerAt w a b i vo wr) (fun i _ _ => b.length - (intOf i).toNat)
  case atStart => exact ⟨0, by omega, rfl, by rw [List.take_zero, P.mrg_nil]; exact own0, hb0⟩
  case round =>
    clear own0 hb0 HA
    obtain ⟨k, hk, rfl, hown, hb⟩ := hrel
    have hsz := hb.size
    by_cases hlt : k < b.length
    · rcases hcase with h | ⟨p, o, rfl, hp, hc⟩
      · rw [h] at hlt; simp at hlt
      obtain ⟨g0, g1⟩ := hc k hlt
      replace g0 := (hb.cell (p := ⟨p, o + k * 2, none⟩) hp).trans g0
      replace g1 := (hb.cell (p := ⟨p, o + k * 2 + 1, none⟩) hp).trans g1
      have HN := hide (HStep.out k hlt)
      have HR := hide (HRis.out k)
      have hlJ : (P.mrg a (b.take k)).length ≤ 2000 := by have := HLen.out k; simp at this; omega
      generalize b.getD k (0, 0) = s at *
      obtain ⟨s0, s1⟩ := s
      simp only at g0 g1
      generalize P.mrg a (b.take k) = O at *
      clear hc HStep HRis HLen
      have hpr : p < wr.heap.size := by omega
      have n0 : (0 : Int) ≤ (k : Int) := by omega
      have n1 : (k : Int) < (b.length : Int) := by omega
      obtain ⟨xo, co, hvo⟩ := hown.shp
      rw [hvo] at hown ⊢
      have o5 := hown.below ((Below.refl _ _).alloc (Nat.le_refl _) (.cells #[.int .i64 s0, .int .i64 s1] 37)) (Nat.le_refl _)
      have b5 := hb.alloc hsz (.cells #[.int .i64 s0, .int .i64 s1] 37)
      have s5 := b5.size
      have d0 : (wr.alloc (.cells #[.int .i64 s0, .int .i64 s1] 37)).cell? ⟨wr.heap.size, 0, none⟩ = some (.int .i64 s0) := by simp
      have d1 : (wr.alloc (.cells #[.int .i64 s0, .int .i64 s1] 37)).cell? ⟨wr.heap.size, 1, none⟩ = some (.int .i64 s1) := by simp
      have HLt := hide (fun k hk => (hown.lt k hk).2)
      clear hown hb hvo
      go_wp2
      obtain ⟨W, hW⟩ : ∃ W, wr.alloc (.cells #[.int .i64 s0, .int .i64 s1] 37) = W := ⟨_, rfl⟩
      have hsW : wr.heap.size < W.heap.size := by rw [← hW]; simp
      rw [hW] at o5 b5 s5 d0 d1 ⊢
      clear hW g0 g1
      rcases id o5.2 with ⟨hvn, h0⟩ | ⟨g, co', cur, hv9, hbg, hgW, hno, hmo, hso, hto⟩
      · obtain rfl : O = [] := List.length_eq_zero_iff.1 h0
        simp only [List.length_nil, Value.slice.injEq, true_and] at hvn
        obtain ⟨rfl, rfl⟩ := hvn
        have HI := hide (P.mrg_nil' [(s0, s1)])
        simp only [List.length_nil] at *
        go_loopw [8] (fun i w' => i = .int .i64 0 ∧ ∃ q, w' = W.drewN q) (fun i _ => 0)
        case atStart => exact ⟨rfl, 0, rfl⟩
        case round =>
          obtain ⟨rfl, q, rfl⟩ := hrel
          go_wp2
          go_quiet (fail)
          go_wp2
          obtain ⟨n1, rfl⟩ : ∃ n1, n1 = nq := ⟨_, rfl⟩
          go_quiet (fail)
          go_wp2
          obtain ⟨X, hX⟩ : ∃ X, ((W.drewN q).drewN n1).drewN nq = X := ⟨_, rfl⟩
          rw [hX]
          have bX : Below w.heap.size w X := by rw [← hX]; exact below_dn (below_dn (below_dn b5 _) _) _
          have e0 : X.cell? ⟨wr.heap.size, 0, none⟩ = some (.int .i64 s0) := by rw [← hX]; exact d0
          have e1 : X.cell? ⟨wr.heap.size, 1, none⟩ = some (.int .i64 s1) := by rw [← hX]; exact d1
          go_region_law (first
            | (refine step_dstS rfl (.tmp 51) (.tmp 57) rfl w7 none 0 _ [] ([(s0, s1)] ++ []) (RowS.nil _) own7.row (by simp) rfl rfl (by simp) ?_; intro v8 w8 own8 b8)
            | (refine step_appS rfl (.tmp 53) (.tmp 56) rfl X.heap.size X.heap.size X _ _ _ [(s0, s1)] [] (own_oneS X X.heap.size (s0, s1) (Nat.le_refl _)) (RowS.nil _) (((Below.refl _ X).alloc (Nat.le_refl _) (.cells #[.int .i64 s0, .int .i64 s1] 37)).drew) (Nat.le_refl _) rfl rfl (by simp) (show X.heap.size ≤ (X.alloc _).heap.size by simp) ?_; intro v7 w7 own7 b7 _ _))
          all_goals
            go_wp2
            go_roundw
            case rel => exact ⟨k + 1, by omega, by go_num, by rw [← HN.out, HI.out]; exact own8.base (Nat.le_trans bX.size b7.size), Below.next (Below.next bX b7) b8⟩
            case measure => simp [intOf]; omega
      · simp only [Value.slice.injEq, true_and] at hv9
        obtain ⟨rfl, rfl⟩ := hv9
        have HCO := hide (o5.row)
        unfold maxLen at hmo
        clear hgW hso hto cur
        go_loopw [8] (fun i w' => ∃ j : Nat, j ≤ O.length ∧ i = .int .i64 j ∧ (∀ n, n < j → (O.getD n (0, 0)).1 < s0) ∧ ∃ q, w' = W.drewN q) (fun i _ => O.length - (intOf i).toNat)
        case atStart => exact ⟨0, by omega, rfl, fun n hn => by omega, 0, rfl⟩
        case round =>
          obtain ⟨j, hj, rfl, hlow, q, rfl⟩ := hrel
          have HLow := hide hlow
          clear hlow
          by_cases hjl : j < O.length
          · obtain ⟨_, _, hv8, _, hcO⟩ := HCO.out
            simp only [Value.slice.injEq, true_and] at hv8
            obtain ⟨rfl, rfl⟩ := hv8
            rcases hcO with h | ⟨po, oo, hpo, hgo, hcc⟩
            · rw [h] at hjl; simp at hjl
            simp only [Option.some.injEq, Addr.mk.injEq, and_true] at hpo
            obtain ⟨rfl, rfl⟩ := hpo
            obtain ⟨c0, c1⟩ := hcc j hjl
            rw [Nat.zero_add] at c0 c1
            have i0 : (0 : Int) ≤ (j : Int) := by omega
            have i1 : (j : Int) < (O.length : Int) := by omega
            generalize hx : O.getD j (0, 0) = x at c0 c1
            have HX := hide hx
            clear hx hcc
            obtain ⟨x0, x1⟩ := x
            simp only at c0 c1
            by_cases hxs : x0 < s0
            · go_wp2
              go_quiet (fail)
              go_wp2
              go_roundw
              case rel =>
                refine ⟨j + 1, by omega, by go_num, fun n hn => ?_, q + nq, rfl⟩
                rcases Nat.lt_or_ge n j with h | h
                · exact HLow.out n h
                · obtain rfl : n = j := by omega
                  rw [HX.out]; exact hxs
              case measure => simp [intOf]; omega
            · have tx : decide (x0 < s0) = false := by simpa using hxs
              have tl : ((j : Int) == (O.length : Int)) = false := by rw [beq_eq_false_iff_ne]; omega
              go_wp2
              go_quiet (fail)
              go_wp2
              obtain ⟨n1, rfl⟩ : ∃ n1, n1 = nq := ⟨_, rfl⟩
              by_cases hgt : s0 < x0
              · go_quiet (fail)
                go_wp2
                obtain ⟨X, hX⟩ : ∃ X, ((W.drewN q).drewN n1).drewN nq = X := ⟨_, rfl⟩
                rw [hX]
                have oX : OwnS X w.heap.size (.slice (some ⟨g, 0, none⟩) O.length co) O := by rw [← hX]; exact o5
                have bX : Below w.heap.size w X := by rw [← hX]; exact below_dn (below_dn (below_dn b5 _) _) _
                have e0 : X.cell? ⟨wr.heap.size, 0, none⟩ = some (.int .i64 s0) := by rw [← hX]; exact d0
                have e1 : X.cell? ⟨wr.heap.size, 1, none⟩ = some (.int .i64 s1) := by rw [← hX]; exact d1
                have HI := hide (P.mrg_ins O (s0, s1) j (by omega) HLow.out (.inr (by rw [HX.out]; exact hgt)))
                have HPre := hide (fun (w' : World) (h : Below X.heap.size X w') => (oX.row.below h (Nat.le_refl _)).pre j (by omega))
                have hcj : ¬ co = j := by omega
                have jc : (j : Int) ≤ (co : Int) := by omega
                have jc2 : j ≤ co := by omega
                have jo : (j : Int) ≤ (O.length : Int) := by omega
                have HSuf := hide (fun (w' : World) (h : Below X.heap.size X w') => (oX.row.below h (Nat.le_refl _)).part j (O.length - j) (by omega) (j * 2) (co - j) (by omega) rfl)
                rw [List.take_of_length_le (by simp)] at HSuf
                go_region_law (first
                  | (refine step_dstS rfl (.tmp 51) (.tmp 57) rfl w7 _ j _ (O.take j) ([(s0, s1)] ++ O.drop j) (HPre.out _ b7) own7.row (by simp) rfl rfl (by first | (simp; omega) | simp) ?_; intro v8 w8 own8 b8)
                  | (refine step_appS rfl (.tmp 53) (.tmp 56) rfl X.heap.size X.heap.size X _ _ _ [(s0, s1)] (O.drop j) (own_oneS X X.heap.size (s0, s1) (Nat.le_refl _)) (HSuf.out _ (((Below.refl _ X).alloc (Nat.le_refl _) (.cells #[.int .i64 s0, .int .i64 s1] 37)).drew)) (((Below.refl _ X).alloc (Nat.le_refl _) (.cells #[.int .i64 s0, .int .i64 s1] 37)).drew) (Nat.le_refl _) rfl rfl (by first | (simp; omega) | simp) (show X.heap.size ≤ (X.alloc _).heap.size by simp) ?_; intro v7 w7 own7 b7 _ _))
                all_goals
                  go_wp2
                  go_roundw
                  case rel =>
                    exact ⟨k + 1, by omega, by go_num, by rw [← HN.out, HI.out]; exact own8.base (Nat.le_trans bX.size b7.size), Below.next (Below.next bX b7) b8⟩
                  case measure => simp [intOf]; omega
              · have tg : decide (s0 < x0) = false := by simpa using hgt
                have hxe : x0 = s0 := by omega
                have HP := hide (P.mrg_put O (s0, s1) j hjl HLow.out (by rw [HX.out]; exact hxe))
                rw [HX.out] at HP
                have hfz := o5.unfrozen (j * 2 + 1)
                have HO5 := hide o5
                have HSet := hide (o5.set hjl s1)
                rw [HX.out] at HSet
                by_cases hvs : x1 < s1
                · have hmx : max x1 s1 = s1 := by omega
                  simp only [hmx] at HP
                  clear hxe hmx hgt hxs
                  go_quiet (fail)
                  go_wp2
                  go_quiet (fail)
                  go_wp2
                  go_roundw
                  case rel => exact ⟨k + 1, by omega, by go_num, by rw [← HN.out, HP.out]; exact HSet.out, Below.setCell (below_dn b5 _) hbg _⟩
                  case measure => simp [intOf]; omega
                · have tv : decide (x1 < s1) = false := by simpa using hvs
                  have hmx : max x1 s1 = x1 := by omega
                  simp only [hmx] at HP
                  have HE : Hid (O.set j (x0, x1) = O) := by
                    show _ = _
                    have := P.set_same hjl (m := x1) (by rw [HX.out])
                    rwa [HX.out] at this
                  clear hxe hmx hgt hxs hvs
                  go_quiet (fail)
                  go_wp2
                  go_quiet (fail)
                  go_wp2
                  go_roundw
                  case rel => exact ⟨k + 1, by omega, by go_num, by rw [← HN.out, HP.out, HE.out]; exact HO5.out, below_dn b5 _⟩
                  case measure => simp [intOf]; omega
          · have tj : decide ((j : Int) < (O.length : Int)) = false := by simp; omega
            obtain rfl : j = O.length := by omega
            have tl : ((O.length : Int) == (O.length : Int)) = true := by simp
            go_wp2
            go_quiet (fail)
            go_wp2
            obtain ⟨n1, rfl⟩ : ∃ n1, n1 = nq := ⟨_, rfl⟩
            go_quiet (fail)
            go_wp2
            obtain ⟨X, hX⟩ : ∃ X, ((W.drewN q).drewN n1).drewN nq = X := ⟨_, rfl⟩
            rw [hX]
            have oX : OwnS X w.heap.size (.slice (some ⟨g, 0, none⟩) O.length co) O := by rw [← hX]; exact o5
            have bX : Below w.heap.size w X := by rw [← hX]; exact below_dn (below_dn (below_dn b5 _) _) _
            have e0 : X.cell? ⟨wr.heap.size, 0, none⟩ = some (.int .i64 s0) := by rw [← hX]; exact d0
            have e1 : X.cell? ⟨wr.heap.size, 1, none⟩ = some (.int .i64 s1) := by rw [← hX]; exact d1
            have HI := hide (P.mrg_ins O (s0, s1) O.length (Nat.le_refl _) HLow.out (.inl rfl))
            have HPre := hide (fun (w' : World) (h : Below X.heap.size X w') => (oX.row.below h (Nat.le_refl _)).pre O.length (by omega))
            have jc : (O.length : Int) ≤ (co : Int) := by omega
            have jj : (0 : Int) ≤ (O.length : Int) := by omega
            by_cases hcj : co = O.length
            · have HSuf : Hid (∀ (w' : World) (x : Option Addr) (c : Nat), c ≤ 2 ^ 63 - 1 → (x = none → c = 0) → RowS w' (.slice x 0 c) (O.drop O.length)) := by
                intro w' x c h1 h2
                rw [List.drop_of_length_le (by omega)]
                exact RowS.empty' w' x c h1 h2
              have hz : O.length - O.length = 0 := by omega
              have hzc : co - O.length = 0 := by omega
              go_region_law (first
                | (refine step_dstS rfl (.tmp 51) (.tmp 57) rfl w7 _ O.length _ (O.take O.length) ([(s0, s1)] ++ O.drop O.length) (HPre.out _ b7) own7.row (by simp) rfl rfl (by first | (simp; omega) | simp) ?_; intro v8 w8 own8 b8)
                | (refine step_appS rfl (.tmp 53) (.tmp 56) rfl X.heap.size X.heap.size X _ _ _ [(s0, s1)] (O.drop O.length) (own_oneS X X.heap.size (s0, s1) (Nat.le_refl _)) (HSuf.out _ _ _ (by omega) (fun h => by cases h)) (((Below.refl _ X).alloc (Nat.le_refl _) (.cells #[.int .i64 s0, .int .i64 s1] 37)).drew) (Nat.le_refl _) rfl rfl (by first | (simp; omega) | simp) (show X.heap.size ≤ (X.alloc _).heap.size by simp) ?_; intro v7 w7 own7 b7 _ _))
              all_goals
                go_wp2
                go_roundw
                case rel =>
                  exact ⟨k + 1, by omega, by go_num, by rw [← HN.out, HI.out]; exact own8.base (Nat.le_trans bX.size b7.size), Below.next (Below.next bX b7) b8⟩
                case measure => simp [intOf]; omega
            · have HSuf : Hid (∀ (w' : World) (x : Option Addr) (c : Nat), c ≤ 2 ^ 63 - 1 → (x = none → c = 0) → RowS w' (.slice x 0 c) (O.drop O.length)) := by
                intro w' x c h1 h2
                rw [List.drop_of_length_le (by omega)]
                exact RowS.empty' w' x c h1 h2
              go_region_law (first
                | (refine step_dstS rfl (.tmp 51) (.tmp 57) rfl w7 _ O.length _ (O.take O.length) ([(s0, s1)] ++ O.drop O.length) (HPre.out _ b7) own7.row (by simp) rfl rfl (by first | (simp; omega) | simp) ?_; intro v8 w8 own8 b8)
                | (refine step_appS rfl (.tmp 53) (.tmp 56) rfl X.heap.size X.heap.size X _ _ _ [(s0, s1)] (O.drop O.length) (own_oneS X X.heap.size (s0, s1) (Nat.le_refl _)) (HSuf.out _ _ _ (by omega) (fun h => by cases h)) (((Below.refl _ X).alloc (Nat.le_refl _) (.cells #[.int .i64 s0, .int .i64 s1] 37)).drew) (Nat.le_refl _) rfl rfl (by first | (simp; omega) | simp) (show X.heap.size ≤ (X.alloc _).heap.size by simp) ?_; intro v7 w7 own7 b7 _ _))
              all_goals
                go_wp2
                go_roundw
                case rel =>
                  exact ⟨k + 1, by omega, by go_num, by rw [← HN.out, HI.out]; exact own8.base (Nat.le_trans bX.size b7.size), Below.next (Below.next bX b7) b8⟩
                case measure => simp [intOf]; omega
    · have hd : decide ((k : Int) < (b.length : Int)) = false := by simp; omega
      obtain rfl : k = b.length := by omega
      rw [List.take_length] at hown
      go_wp2
      go_ret
      exact ⟨_, rfl, hown, hb⟩
end Go.Proofs.Ytfjbdgkdkbcnhaa
