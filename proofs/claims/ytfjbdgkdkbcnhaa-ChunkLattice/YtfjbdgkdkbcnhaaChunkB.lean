/- What both answers. -/
import Derived.Test.YtfjbdgkdkbcnhaaChunkR
import Derived.Test.YtfjbdgkdkbcnhaaOneS
namespace Go.Proofs.Ytfjbdgkdkbcnhaa
open Go.RowKit
set_option linter.unusedVariables false
def lenV : Value → Nat | .slice _ n _ => n | _ => 0
/-- How the loop of both stands. -/
def BothAt (w : World) (a b : List (Int × Int)) (va vb vl : Value) (wr : World) : Prop :=
  ∃ A B acc, RowS w va A ∧ RowS w vb B ∧ OwnS wr w.heap.size vl acc ∧ acc ++ P.mrg A B = P.mrg a b ∧ Below w.heap.size w wr
theorem both_len {a b A B acc : List (Int × Int)} (h : acc ++ P.mrg A B = P.mrg a b) : acc.length ≤ a.length + b.length := by
  have h1 := P.mrg_length a b
  rw [← h, List.length_append] at h1
  omega
theorem mrg_head {A B : List (Int × Int)} (h : A = [] ∨ B = []) : P.mrg A B = A ++ B := by
  rcases h with rfl | rfl
  · rw [P.mrg_nil']; rfl
  · rw [P.mrg_nil, List.append_nil]
set_option maxHeartbeats 2000000 in
theorem both_any (va vb : Value) (a b : List (Int × Int)) (w : World) (ha : RowS w va a) (hb : RowS w vb b) (hla : a.length ≤ 1000) (hlb : b.length ≤ 1000) :
    Calls Try.prog 15 #[va, vb] w fun e w' => ∃ v, e = .returned v ∧ OwnS w' w.heap.size v (P.mrg a b) ∧ Below w.heap.size w w' := by
  go_enter Try.func15, Try.ntmps15
  go_wp2
  go_loopw [0, 1, 5] (fun va vb vl wr => BothAt w a b va vb vl wr) (fun va vb _ _ => lenV va + lenV vb)
  case atStart => exact ⟨a, b, [], ha, hb, OwnS.nil _ _, rfl, Below.refl _ _⟩
  case round =>
    obtain ⟨A, B, acc, hA, hB, hown, heq, hbl⟩ := hrel
    clear ha hb
    have hacc := both_len heq
    have HQ := hide heq
    clear heq
    obtain ⟨xa, ca, rfl, ⟨hlca, hma, hnna⟩, hcaseA⟩ := id hA
    obtain ⟨xb, cb, rfl, ⟨hlcb, hmb, hnnb⟩, hcaseB⟩ := id hB
    unfold maxLen at hma hmb
    have hsz := hbl.size
    obtain ⟨xl, cl, hvl⟩ := hown.shp
    rw [hvl] at hown ⊢
    clear hvl
    have HrA := hide (fun (w' : World) (h : Below w.heap.size w w') => hA.below h (Nat.le_refl _))
    have HrB := hide (fun (w' : World) (h : Below w.heap.size w w') => hB.below h (Nat.le_refl _))
    clear hA hB
    by_cases hempty : A = [] ∨ B = []
    · have HM := hide (mrg_head hempty)
      have hlA : A.length ≤ 1000 ∨ True := .inr trivial
      have hAB : A.length + B.length + acc.length ≤ 2000 := by
        have h1 := P.mrg_length a b
        rw [← HQ.out, List.length_append, HM.out, List.length_append] at h1
        omega
      clear hlA hcaseA hcaseB
      by_cases hA0 : 0 < A.length
      · have hB0 : B.length = 0 := by
          rcases hempty with h | h
          · rw [h] at hA0; simp at hA0
          · rw [h]; rfl
        have hB1 : ¬ (0 : Int) < (B.length : Int) := by omega
        clear hempty hB0
        go_wp2_with (first
          | (at_builtin; refine wp_appS rfl _ _ rfl w.heap.size w.heap.size w _ _ _ (acc ++ A) B hown2 (HrB.out _ hbl2) hbl2 (Nat.le_refl _) rfl rfl (by simp only [List.length_append]; omega) hbl2.size ?_; intro v3 w3 hown3 hbl3 _ _)
          | (at_builtin; refine wp_appS rfl _ _ rfl w.heap.size w.heap.size w _ _ _ acc A hown (HrA.out _ hbl) hbl (Nat.le_refl _) rfl rfl (by omega) hbl.size ?_; intro v2 w2 hown2 hbl2 _ _))
        go_ret
        exact ⟨_, rfl, by rw [← HQ.out, HM.out, ← List.append_assoc]; exact hown3, hbl3⟩
      · have hA1 : ¬ (0 : Int) < (A.length : Int) := by omega
        clear hempty
        go_wp2_with (first
          | (at_builtin; refine wp_appS rfl _ _ rfl w.heap.size w.heap.size w _ _ _ (acc ++ A) B hown2 (HrB.out _ hbl2) hbl2 (Nat.le_refl _) rfl rfl (by simp only [List.length_append]; omega) hbl2.size ?_; intro v3 w3 hown3 hbl3 _ _)
          | (at_builtin; refine wp_appS rfl _ _ rfl w.heap.size w.heap.size w _ _ _ acc A hown (HrA.out _ hbl) hbl (Nat.le_refl _) rfl rfl (by omega) hbl.size ?_; intro v2 w2 hown2 hbl2 _ _))
        go_ret
        exact ⟨_, rfl, by rw [← HQ.out, HM.out, ← List.append_assoc]; exact hown3, hbl3⟩
    · rcases A with _ | ⟨s, A⟩
      · exact absurd (.inl rfl) hempty
      rcases B with _ | ⟨r, B⟩
      · exact absurd (.inr rfl) hempty
      clear hempty
      rcases hcaseA with h | ⟨pa, oa, rfl, hpa, hcA⟩
      · cases h
      rcases hcaseB with h | ⟨pb, ob, rfl, hpb, hcB⟩
      · cases h
      obtain ⟨ga0, ga1⟩ := hcA 0 (by simp)
      obtain ⟨gb0, gb1⟩ := hcB 0 (by simp)
      clear hcA hcB
      simp only [Nat.zero_mul, Nat.add_zero, List.getD_cons_zero] at ga0 ga1 gb0 gb1
      replace ga0 := (hbl.cell (p := ⟨pa, oa, none⟩) hpa).trans ga0
      replace ga1 := (hbl.cell (p := ⟨pa, oa + 1, none⟩) hpa).trans ga1
      replace gb0 := (hbl.cell (p := ⟨pb, ob, none⟩) hpb).trans gb0
      replace gb1 := (hbl.cell (p := ⟨pb, ob + 1, none⟩) hpb).trans gb1
      obtain ⟨s0, s1⟩ := s
      obtain ⟨r0, r1⟩ := r
      simp only at ga0 ga1 gb0 gb1
      simp only [List.length_cons] at hlca hlcb
      have hAl : (0 : Int) < ((A.length + 1 : Nat) : Int) := by omega
      have hBl : (0 : Int) < ((B.length + 1 : Nat) : Int) := by omega
      have hpa' : pa < wr.heap.size := by omega
      have hpb' : pb < wr.heap.size := by omega
      have HA1 : Hid (∀ ca' oa', ca' = ca - 1 → oa' = oa + 2 → RowS w (.slice (some ⟨pa, oa', none⟩) A.length ca') A) := by
        intro ca' oa' h1 h2
        have := (HrA.out w (Below.refl _ _)).part 1 A.length (by simp; omega) oa' ca' (by omega) (by omega)
        simpa using this
      have HB1 : Hid (∀ cb' ob', cb' = cb - 1 → ob' = ob + 2 → RowS w (.slice (some ⟨pb, ob', none⟩) B.length cb') B) := by
        intro cb' ob' h1 h2
        have := (HrB.out w (Below.refl _ _)).part 1 B.length (by simp; omega) ob' cb' (by omega) (by omega)
        simpa using this
      have HA0 : Hid (ca = 1 → ∀ x c, c ≤ 2 ^ 63 - 1 → RowS w (.slice (some x) 0 c) A) := by
        intro h1 x c hc
        have : A = [] := List.length_eq_zero_iff.1 (by omega)
        subst this
        exact RowS.empty w _ _ hc (fun h => by cases h)
      have HB0 : Hid (cb = 1 → ∀ x c, c ≤ 2 ^ 63 - 1 → RowS w (.slice (some x) 0 c) B) := by
        intro h1 x c hc
        have : B = [] := List.length_eq_zero_iff.1 (by omega)
        subst this
        exact RowS.empty w _ _ hc (fun h => by cases h)
      have hacc2 : acc.length ≤ 2000 := by omega
      have hA2 : (1 : Int) ≤ (A.length : Int) + 1 := by omega
      have hB2 : (1 : Int) ≤ (B.length : Int) + 1 := by omega
      go_wp2
      go_region
      all_goals
        first
        | (obtain ⟨w5, hW⟩ : ∃ w5, ((wr.alloc (.cells #[.int .i64 s0, .int .i64 s1] 37)).alloc (.cells #[.int .i64 r0, .int .i64 r1] 37)).drew = w5 := ⟨_, rfl⟩
           rw [hW]
           have c60 : w5.cell? ⟨wr.heap.size, 0, none⟩ = some (.int .i64 s0) := by rw [← hW]; simp
           have c61 : w5.cell? ⟨wr.heap.size, 1, none⟩ = some (.int .i64 s1) := by rw [← hW]; simp
           have c70 : w5.cell? ⟨wr.heap.size + 1, 0, none⟩ = some (.int .i64 r0) := by rw [← hW]; simp
           have c71 : w5.cell? ⟨wr.heap.size + 1, 1, none⟩ = some (.int .i64 r1) := by rw [← hW]; simp
           have hb5 : Below wr.heap.size wr w5 := by rw [← hW]; exact (((Below.refl _ _).alloc (Nat.le_refl _) _).alloc (by simp) _).drew)
        | (obtain ⟨w5, hW⟩ : ∃ w5, ((wr.alloc (.cells #[.int .i64 r0, .int .i64 r1] 37)).alloc (.cells #[.int .i64 s0, .int .i64 s1] 37)).drew = w5 := ⟨_, rfl⟩
           rw [hW]
           have c60 : w5.cell? ⟨wr.heap.size + 1, 0, none⟩ = some (.int .i64 s0) := by rw [← hW]; simp
           have c61 : w5.cell? ⟨wr.heap.size + 1, 1, none⟩ = some (.int .i64 s1) := by rw [← hW]; simp
           have c70 : w5.cell? ⟨wr.heap.size, 0, none⟩ = some (.int .i64 r0) := by rw [← hW]; simp
           have c71 : w5.cell? ⟨wr.heap.size, 1, none⟩ = some (.int .i64 r1) := by rw [← hW]; simp
           have hb5 : Below wr.heap.size wr w5 := by rw [← hW]; exact (((Below.refl _ _).alloc (Nat.le_refl _) _).alloc (by simp) _).drew)
        have own5 := hown.below hb5 (Nat.le_refl _)
        have bl5 := Below.next hbl hb5
        have sz5 := bl5.size
        clear hW hb5 ga0 ga1 gb0 gb1 hown hbl
        rcases Int.lt_trichotomy s0 r0 with hlt | heq | hgt
        · have HQ2 := hide HQ.out
          rw [P.mrg_lt (s := (s0, s1)) (r := (r0, r1)) A B hlt] at HQ2
          by_cases hca : ca = 1
          · subst hca
            go_wp2
            go_region_law (refine step_oneS rfl (.tmp 43) (.tmp 45) rfl w.heap.size w.heap.size w w5 _ acc (s0, s1) own5 bl5 (Nat.le_refl _) rfl rfl (by omega) sz5 sz5 ?_; intro v' w6 own6 bl6 sz6)
            all_goals
              go_simp
              go_roundw
              case rel =>
                repeat apply Exists.intro
                refine ⟨?_, rfl⟩
                exact ⟨A, (r0, r1) :: B, acc ++ [(s0, s1)], HA0.out trivial _ _ (by omega), HrB.out w (Below.refl _ _), own6, by rw [List.append_assoc]; exact HQ2.out, bl6⟩
              case measure => simp [lenV]
          · go_wp2
            go_region_law (refine step_oneS rfl (.tmp 43) (.tmp 45) rfl w.heap.size w.heap.size w w5 _ acc (s0, s1) own5 bl5 (Nat.le_refl _) rfl rfl (by omega) sz5 sz5 ?_; intro v' w6 own6 bl6 sz6)
            all_goals
              go_simp
              go_roundw
              case rel =>
                repeat apply Exists.intro
                refine ⟨?_, rfl⟩
                exact ⟨A, (r0, r1) :: B, acc ++ [(s0, s1)], HA1.out _ _ (by omega) (by omega), HrB.out w (Below.refl _ _), own6, by rw [List.append_assoc]; exact HQ2.out, bl6⟩
              case measure => simp [lenV]
        · have HQ2 := hide HQ.out
          rw [P.mrg_eq (s := (s0, s1)) (r := (r0, r1)) A B heq] at HQ2
          have n1 : ¬ s0 < r0 := by omega
          have n2 : ¬ r0 < s0 := by omega
          have hmx : max s1 r1 = if s1 < r1 then r1 else s1 := by split <;> omega
          rw [hmx] at HQ2
          obtain ⟨m, hm⟩ : ∃ m, (if s1 < r1 then r1 else s1) = m := ⟨_, rfl⟩
          rw [hm] at HQ2
          clear heq hmx
          by_cases hca : ca = 1
          · subst hca
            by_cases hcb : cb = 1
            · subst hcb
              go_wp2_with (at_builtin; go_must (refine wp_oneS rfl _ _ rfl w.heap.size w.heap.size w w5 _ acc (s0, m) own5 bl5 (Nat.le_refl _) rfl rfl (by omega) sz5 sz5 ?_); intro v' w6 own6 bl6 sz6 _)
              go_region
              all_goals
                go_simp
                go_roundw
                case rel =>
                  repeat apply Exists.intro
                  refine ⟨?_, rfl⟩
                  exact ⟨A, B, acc ++ [(s0, m)], HA0.out trivial _ _ (by omega), HB0.out trivial _ _ (by omega), own6, by rw [List.append_assoc]; exact HQ2.out, bl6.drew⟩
                case measure => simp [lenV]; omega
            · skip
              go_wp2_with (at_builtin; go_must (refine wp_oneS rfl _ _ rfl w.heap.size w.heap.size w w5 _ acc (s0, m) own5 bl5 (Nat.le_refl _) rfl rfl (by omega) sz5 sz5 ?_); intro v' w6 own6 bl6 sz6 _)
              go_region
              all_goals
                go_simp
                go_roundw
                case rel =>
                  repeat apply Exists.intro
                  refine ⟨?_, rfl⟩
                  exact ⟨A, B, acc ++ [(s0, m)], HA0.out trivial _ _ (by omega), HB1.out _ _ (by omega) (by omega), own6, by rw [List.append_assoc]; exact HQ2.out, bl6.drew⟩
                case measure => simp [lenV]; omega
          · by_cases hcb : cb = 1
            · subst hcb
              go_wp2_with (at_builtin; go_must (refine wp_oneS rfl _ _ rfl w.heap.size w.heap.size w w5 _ acc (s0, m) own5 bl5 (Nat.le_refl _) rfl rfl (by omega) sz5 sz5 ?_); intro v' w6 own6 bl6 sz6 _)
              go_region
              all_goals
                go_simp
                go_roundw
                case rel =>
                  repeat apply Exists.intro
                  refine ⟨?_, rfl⟩
                  exact ⟨A, B, acc ++ [(s0, m)], HA1.out _ _ (by omega) (by omega), HB0.out trivial _ _ (by omega), own6, by rw [List.append_assoc]; exact HQ2.out, bl6.drew⟩
                case measure => simp [lenV]; omega
            · skip
              go_wp2_with (at_builtin; go_must (refine wp_oneS rfl _ _ rfl w.heap.size w.heap.size w w5 _ acc (s0, m) own5 bl5 (Nat.le_refl _) rfl rfl (by omega) sz5 sz5 ?_); intro v' w6 own6 bl6 sz6 _)
              go_region
              all_goals
                go_simp
                go_roundw
                case rel =>
                  repeat apply Exists.intro
                  refine ⟨?_, rfl⟩
                  exact ⟨A, B, acc ++ [(s0, m)], HA1.out _ _ (by omega) (by omega), HB1.out _ _ (by omega) (by omega), own6, by rw [List.append_assoc]; exact HQ2.out, bl6.drew⟩
                case measure => simp [lenV]; omega
        · have HQ2 := hide HQ.out
          rw [P.mrg_gt (s := (s0, s1)) (r := (r0, r1)) A B hgt] at HQ2
          have n1 : ¬ s0 < r0 := by omega
          by_cases hcb : cb = 1
          · subst hcb
            go_wp2
            go_region_law (refine step_oneS rfl (.tmp 55) (.tmp 57) rfl w.heap.size w.heap.size w w5 _ acc (r0, r1) own5 bl5 (Nat.le_refl _) rfl rfl (by omega) sz5 sz5 ?_; intro v' w6 own6 bl6 sz6)
            all_goals
              go_simp
              go_roundw
              case rel =>
                repeat apply Exists.intro
                refine ⟨?_, rfl⟩
                exact ⟨(s0, s1) :: A, B, acc ++ [(r0, r1)], HrA.out w (Below.refl _ _), HB0.out trivial _ _ (by omega), own6, by rw [List.append_assoc]; exact HQ2.out, bl6⟩
              case measure => simp [lenV]
          · go_wp2
            go_region_law (refine step_oneS rfl (.tmp 55) (.tmp 57) rfl w.heap.size w.heap.size w w5 _ acc (r0, r1) own5 bl5 (Nat.le_refl _) rfl rfl (by omega) sz5 sz5 ?_; intro v' w6 own6 bl6 sz6)
            all_goals
              go_simp
              go_roundw
              case rel =>
                repeat apply Exists.intro
                refine ⟨?_, rfl⟩
                exact ⟨(s0, s1) :: A, B, acc ++ [(r0, r1)], HrA.out w (Below.refl _ _), HB1.out _ _ (by omega) (by omega), own6, by rw [List.append_assoc]; exact HQ2.out, bl6⟩
              case measure => simp [lenV]
end Go.Proofs.Ytfjbdgkdkbcnhaa
