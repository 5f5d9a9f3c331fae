/- What joined answers. -/
import Derived.Test.YtgfjhcjplhlonaaRollG
import Derived.Deep.RegionLaw
namespace Go.Proofs.Ytgfjhcjplhlonaa
open Go.RowKit
set_option linter.unusedVariables false
def lenV : Value → Nat | .slice _ n _ => n | _ => 0
/-- How the loop of joined stands. -/
def JoiAt (w : World) (a b : List P.Wn) (va vb vl : Value) (wr : World) : Prop :=
  ∃ A B acc, RowW w va A ∧ RowW w vb B ∧ OwnW wr w.heap.size vl acc ∧ acc ++ P.jn A B = P.jn a b ∧ Below w.heap.size w wr
theorem joi_len {a b A B acc : List P.Wn} (h : acc ++ P.jn A B = P.jn a b) : acc.length ≤ a.length + b.length := by
  have h1 := P.jn_length a b
  rw [← h, List.length_append] at h1
  omega
theorem jn_head {A B : List P.Wn} (h : A = [] ∨ B = []) : P.jn A B = A ++ B := by
  rcases h with rfl | rfl
  · rw [P.jn_nil']; rfl
  · rw [P.jn_nil, List.append_nil]
/-- 'append(b, x...)' of windows, where the walk stands at it. -/
theorem wp_appW {ops : Array Oper} {rest : List Oper} {o : Oper} {a : Act} {Q : Exit → Act → World → Prop} (hgd : o.guard = none) (s x : Operand)
    (ho : o.op = .call { callee := .builtin .append, args := #[s, x], argTypes := #[23, 23] })
    (B base : Nat) (w0 w : World) (v vx : Value) (acc l : List P.Wn) (hown : OwnW w base v acc) (hrow : RowW w vx l) (hb : Below B w0 w) (hB : B ≤ base) (hs : a.eval s = v)
    (hx : a.eval x = vx) (hlen : acc.length + l.length ≤ 2513123006523) (hbase : base ≤ w.heap.size)
    (h : ∀ v' w', OwnW w' base v' (acc ++ l) → Below B w0 w' → w.heap.size ≤ w'.heap.size → w.grownBy w' v.ownBlock → wpList Try.prog ops Q rest (a.put o.dst v') w') :
    wpList Try.prog ops Q (o :: rest) a w := by
  refine wpList_step fun K hK => ?_
  rw [if_pos (by simp [Region.wanted, hgd])]
  exact op_appX wnC_len wnC_one (by decide) (by decide) rfl Try.underlying23 infoW s x ho B base w0 w v vx acc l hown hrow hb hB hs hx (by omega) hbase fun v' w' a1 a2 a3 a4 => hK _ _ (h v' w' a1 a2 a3 a4)
/-- 'append(b, x)' of one window that lies in a new block, as one step of a region. -/
theorem step_oneW {ops : Array Oper} {o : Oper} {a : Act} {K : Act → World → Prop} {Q : Exit → Act → World → Prop} {E : Prop} (hgd : o.guard = none) (s x : Operand)
    (ho : o.op = .call { callee := .builtin .append, args := #[s, x], argTypes := #[23, 23] })
    (B base : Nat) (w0 w : World) (v : Value) (acc : List P.Wn) (y : P.Wn) (c : Array Value) (hc : c = (wnC y).toArray) (hown : OwnW w base v acc) (hb : Below B w0 w) (hB : B ≤ base) (hs : a.eval s = v)
    (hx : a.eval x = .slice (some ⟨w.heap.size, 0, none⟩) 1 1) (hlen : acc.length + 1 ≤ 2513123006523) (hbase : base ≤ w.heap.size) (hBw : B ≤ w.heap.size)
    (h : ∀ v' w', OwnW w' base v' (acc ++ [y]) → Below B w0 w' → w.heap.size < w'.heap.size → K (a.put o.dst v') w') :
    if Region.wanted o (yielded ops a.tmps) = true then Oper.wp Try.prog o a (w.alloc (.cells c 34)) K Q else E := by
  subst hc
  rw [if_pos (by simp [Region.wanted, hgd])]
  refine op_appX wnC_len wnC_one (by decide) (by decide) rfl Try.underlying23 infoW s x ho B base w0 _ v _ acc [y] (OwnX.below hown (bel_a w (.cells (wnC y).toArray 34)) (Nat.le_refl _)) (RowX.one wnC 7 w y 34) (hb.alloc hBw _) hB hs hx (by simp; omega)
    (by simp; omega) fun v' w' a1 a2 a3 a4 => ?_
  have a5 : (w.alloc (.cells (wnC y).toArray 34)).heap.size ≤ w'.heap.size := a3
  simp at a5
  exact h v' w' a1 a2 (by omega)
theorem step_oneWd {ops : Array Oper} {o : Oper} {a : Act} {K : Act → World → Prop} {Q : Exit → Act → World → Prop} {E : Prop} (hgd : o.guard = none) (s x : Operand)
    (ho : o.op = .call { callee := .builtin .append, args := #[s, x], argTypes := #[23, 23] })
    (B base : Nat) (w0 w : World) (v : Value) (acc : List P.Wn) (y : P.Wn) (c : Array Value) (hc : c = (wnC y).toArray) (hown : OwnW w base v acc) (hb : Below B w0 w) (hB : B ≤ base) (hs : a.eval s = v)
    (hx : a.eval x = .slice (some ⟨w.heap.size, 0, none⟩) 1 1) (hlen : acc.length + 1 ≤ 2513123006523) (hbase : base ≤ w.heap.size) (hBw : B ≤ w.heap.size)
    (h : ∀ v' w', OwnW w' base v' (acc ++ [y]) → Below B w0 w' → w.heap.size < w'.heap.size → K (a.put o.dst v') w') :
    if Region.wanted o (yielded ops a.tmps) = true then Oper.wp Try.prog o a (w.alloc (.cells c 34)).drew K Q else E :=
  step_oneW hgd s x ho B base w0 w.drew v acc y c hc (OwnX.below hown (Below.refl _ w).drew (Nat.le_refl _)) hb.drew hB hs hx hlen hbase hBw h
set_option maxHeartbeats 2000000 in
theorem joined_any (va vb : Value) (a b : List P.Wn) (w : World) (ha : RowW w va a) (hb : RowW w vb b) (hla : a.length ≤ 1000) (hlb : b.length ≤ 1000) :
    Calls Try.prog 31 #[va, vb] w fun e w' => ∃ v, e = .returned v ∧ OwnW w' w.heap.size v (P.jn a b) ∧ Below w.heap.size w w' := by
  have HBo := hide both_any
  go_enter Try.func31, Try.ntmps31
  go_wp2
  go_loopw [0, 1, 5] (fun va vb vl wr => JoiAt w a b va vb vl wr) (fun va vb _ _ => lenV va + lenV vb)
  case atStart => exact ⟨a, b, [], ha, hb, OwnW.nil _ _, rfl, Below.refl _ _⟩
  case round =>
    obtain ⟨A, B, acc, hA, hB, hown, heq, hbl⟩ := hrel
    clear ha hb
    have hacc := joi_len heq
    have HQ := hide heq
    clear heq
    obtain ⟨xa, ca, rfl, ⟨hlca, hma, hnna⟩, hcaseA⟩ := id hA
    obtain ⟨xb, cb, rfl, ⟨hlcb, hmb, hnnb⟩, hcaseB⟩ := id hB
    unfold maxLen at hma hmb
    have hsz := hbl.size
    obtain ⟨xl, cl, hvl⟩ := OwnW.shp hown
    rw [hvl] at hown ⊢
    clear hvl
    have HrA := hide (fun (w' : World) (h : Below w.heap.size w w') => hA.below h (Nat.le_refl _))
    have HrB := hide (fun (w' : World) (h : Below w.heap.size w w') => hB.below h (Nat.le_refl _))
    clear hA hB
    by_cases hempty : A = [] ∨ B = []
    · have HM := hide (jn_head hempty)
      have hAB : A.length + B.length + acc.length ≤ 2000 := by
        have h1 := P.jn_length a b
        rw [← HQ.out, List.length_append, HM.out, List.length_append] at h1
        omega
      clear hcaseA hcaseB
      by_cases hA0 : 0 < A.length
      · have hB0 : B.length = 0 := by
          rcases hempty with h | h
          · rw [h] at hA0; simp at hA0
          · rw [h]; rfl
        have hB1 : ¬ (0 : Int) < (B.length : Int) := by omega
        clear hempty hB0
        go_wp2_with (first
          | (at_builtin; refine wp_appW rfl _ _ rfl w.heap.size w.heap.size w _ _ _ (acc ++ A) B hown2 (HrB.out _ hbl2) hbl2 (Nat.le_refl _) rfl rfl (by simp only [List.length_append]; omega) hbl2.size ?_; intro v3 w3 hown3 hbl3 _ _)
          | (at_builtin; refine wp_appW rfl _ _ rfl w.heap.size w.heap.size w _ _ _ acc A hown (HrA.out _ hbl) hbl (Nat.le_refl _) rfl rfl (by omega) hbl.size ?_; intro v2 w2 hown2 hbl2 _ _))
        go_ret
        exact ⟨_, rfl, by rw [← HQ.out, HM.out, ← List.append_assoc]; exact hown3, hbl3⟩
      · have hA1 : ¬ (0 : Int) < (A.length : Int) := by omega
        clear hempty
        go_wp2_with (first
          | (at_builtin; refine wp_appW rfl _ _ rfl w.heap.size w.heap.size w _ _ _ (acc ++ A) B hown2 (HrB.out _ hbl2) hbl2 (Nat.le_refl _) rfl rfl (by simp only [List.length_append]; omega) hbl2.size ?_; intro v3 w3 hown3 hbl3 _ _)
          | (at_builtin; refine wp_appW rfl _ _ rfl w.heap.size w.heap.size w _ _ _ acc A hown (HrA.out _ hbl) hbl (Nat.le_refl _) rfl rfl (by omega) hbl.size ?_; intro v2 w2 hown2 hbl2 _ _))
        go_ret
        exact ⟨_, rfl, by rw [← HQ.out, HM.out, ← List.append_assoc]; exact hown3, hbl3⟩
    · rcases A with _ | ⟨s, A⟩
      · exact absurd (.inl rfl) hempty
      rcases B with _ | ⟨r, B⟩
      · exact absurd (.inr rfl) hempty
      clear hempty
      rcases hcaseA with h | ⟨pa, oa, rfl, hpa, hcA⟩
      · cases h
      rcases hcaseB with h | ⟨pb, ob, rfl, hpb, hcB⟩
      · cases h
      have gA := (RowW.at hcA (k := 0) (x := s) rfl).below hbl hpa
      have gB := (RowW.at hcB (k := 0) (x := r) rfl).below hbl hpb
      rw [Nat.zero_mul, Nat.add_zero] at gA gB
      clear hcA hcB
      simp only [List.length_cons] at hlca hlcb
      have hAl : (0 : Int) < ((A.length + 1 : Nat) : Int) := by omega
      have hBl : (0 : Int) < ((B.length + 1 : Nat) : Int) := by omega
      have hpa' : pa < wr.heap.size := by omega
      have hpb' : pb < wr.heap.size := by omega
      have HA1 : Hid (∀ ca' oa', ca' = ca - 1 → oa' = oa + 7 → RowW w (.slice (some ⟨pa, oa', none⟩) A.length ca') A) := by
        intro ca' oa' h1 h2
        have := (HrA.out w (Below.refl _ _)).part 1 A.length (by simp; omega) oa' ca' (by omega) (by omega)
        simpa using this
      have HB1 : Hid (∀ cb' ob', cb' = cb - 1 → ob' = ob + 7 → RowW w (.slice (some ⟨pb, ob', none⟩) B.length cb') B) := by
        intro cb' ob' h1 h2
        have := (HrB.out w (Below.refl _ _)).part 1 B.length (by simp; omega) ob' cb' (by omega) (by omega)
        simpa using this
      have HA0 : Hid (ca = 1 → ∀ x c, c ≤ 2 ^ 63 - 1 → RowW w (.slice (some x) 0 c) A) := by
        intro h1 x c hc
        have : A = [] := List.length_eq_zero_iff.1 (by omega)
        subst this
        exact RowX.empty' _ _ w _ _ hc (fun h => by cases h)
      have HB0 : Hid (cb = 1 → ∀ x c, c ≤ 2 ^ 63 - 1 → RowW w (.slice (some x) 0 c) B) := by
        intro h1 x c hc
        have : B = [] := List.length_eq_zero_iff.1 (by omega)
        subst this
        exact RowX.empty' _ _ w _ _ hc (fun h => by cases h)
      have hacc2 : acc.length ≤ 2000 := by omega
      have hA2 : (1 : Int) ≤ (A.length : Int) + 1 := by omega
      have hB2 : (1 : Int) ≤ (B.length : Int) + 1 := by omega
      have HBx := hide (fun w => HBo.out s r w)
      have HQl := hide (fun h => P.jn_lt (x := s) (y := r) A B h)
      have HQg := hide (fun h => P.jn_gt (x := s) (y := r) A B h)
      have HQe := hide (fun h => P.jn_eq (x := s) (y := r) A B h)
      generalize P.bo s r = z at *
      clear HBo
      obtain ⟨ga0, ga1, ga2, ga3, ga4, ga5, ga6⟩ := id gA
      obtain ⟨gb0, gb1, gb2, gb3, gb4, gb5, gb6⟩ := id gB
      have HgA := hide gA
      have HgB := hide gB
      clear gA gB
      obtain ⟨s0, s1, s2, s3, s4, s5, s6⟩ := s
      obtain ⟨r0, r1, r2, r3, r4, r5, r6⟩ := r
      obtain ⟨z0, z1, z2, z3, z4, z5, z6⟩ := z
      simp only at ga0 ga1 ga2 ga3 ga4 ga5 ga6 gb0 gb1 gb2 gb3 gb4 gb5 gb6
      simp only [wnV] at HBx
      go_wp2
      go_quiet (fail)
      rcases Int.lt_trichotomy s0 r0 with hlt | heq | hgt
      · have HQ2 := hide HQ.out
        rw [HQl.out hlt] at HQ2
        have own5 : OwnW (wr.drewN nq) w.heap.size _ acc := OwnX.below hown (below_dn (Below.refl _ _) nq) (Nat.le_refl _)
        have bl5 : Below w.heap.size w (wr.drewN nq) := below_dn hbl nq
        by_cases hca : ca = 1
        · subst hca
          go_wp2
          go_region_law (refine step_oneWd rfl (.tmp 38) (.tmp 42) rfl w.heap.size w.heap.size w (wr.drewN nq) _ acc ⟨s0, s1, s2, s3, s4, s5, s6⟩ _ rfl own5 bl5 (Nat.le_refl _) rfl rfl (by omega) hsz hsz ?_; intro v' w6 own6 bl6 sz6)
          all_goals
            go_simp
            go_roundw
            case rel =>
              repeat apply Exists.intro
              refine ⟨?_, rfl⟩
              exact ⟨A, (⟨r0, r1, r2, r3, r4, r5, r6⟩ : P.Wn) :: B, acc ++ [(⟨s0, s1, s2, s3, s4, s5, s6⟩ : P.Wn)], HA0.out trivial _ _ (by omega), HrB.out w (Below.refl _ _), own6, by rw [List.append_assoc]; exact HQ2.out, bl6⟩
            case measure => simp [lenV]
        · go_wp2
          go_region_law (refine step_oneWd rfl (.tmp 38) (.tmp 42) rfl w.heap.size w.heap.size w (wr.drewN nq) _ acc ⟨s0, s1, s2, s3, s4, s5, s6⟩ _ rfl own5 bl5 (Nat.le_refl _) rfl rfl (by omega) hsz hsz ?_; intro v' w6 own6 bl6 sz6)
          all_goals
            go_simp
            go_roundw
            case rel =>
              repeat apply Exists.intro
              refine ⟨?_, rfl⟩
              exact ⟨A, (⟨r0, r1, r2, r3, r4, r5, r6⟩ : P.Wn) :: B, acc ++ [(⟨s0, s1, s2, s3, s4, s5, s6⟩ : P.Wn)], HA1.out _ _ (by omega) (by omega), HrB.out w (Below.refl _ _), own6, by rw [List.append_assoc]; exact HQ2.out, bl6⟩
            case measure => simp [lenV]
      · have HQ2 := hide HQ.out
        rw [HQe.out heq] at HQ2
        have n1 : ¬ s0 < r0 := by omega
        have n2 : ¬ r0 < s0 := by omega
        clear heq
        go_wp2
        obtain ⟨m1, rfl⟩ : ∃ m1, m1 = nq := ⟨_, rfl⟩
        go_quiet (fail)
        go_wp2
        obtain ⟨X, hX⟩ : ∃ X, (wr.drewN m1).drewN nq = X := ⟨_, rfl⟩
        rw [hX]
        have bX : Below wr.heap.size wr X := by rw [← hX]; exact below_dn (below_dn (Below.refl _ _) _) _
        obtain ⟨xa0, xa1, xa2, xa3, xa4, xa5, xa6⟩ := HgA.out.below bX hpa'
        obtain ⟨xb0, xb1, xb2, xb3, xb4, xb5, xb6⟩ := HgB.out.below bX hpb'
        simp only at xa0 xa1 xa2 xa3 xa4 xa5 xa6 xb0 xb1 xb2 xb3 xb4 xb5 xb6
        have own5 := OwnX.below hown bX (Nat.le_refl _)
        have bl5 : Below w.heap.size w X := Below.next hbl bX
        have szX := bX.size
        clear hX ga0 ga1 ga2 ga3 ga4 ga5 ga6 gb0 gb1 gb2 gb3 gb4 gb5 gb6 hown hbl
        go_region_law (first
          | (refine step_oneW rfl (.tmp 14) (.tmp 22) rfl w.heap.size w.heap.size w w2 _ acc ⟨z0, z1, z2, z3, z4, z5, z6⟩ _ rfl own7 bl7 (Nat.le_refl _) rfl rfl (by omega) bl7.size bl7.size ?_; intro v' w6 own6 bl6 sz6)
          | (go_simp; go_at_call 35; refine (HBx.out _).mono ?_; rintro e w2 ⟨rfl, hb2⟩; replace hb2 := below_of_drew hb2; have own7 := OwnX.below own5 hb2 (Nat.le_refl _); have bl7 := Below.next bl5 hb2))
        all_goals
          by_cases hca : ca = 1
          · subst hca
            by_cases hcb : cb = 1
            · subst hcb
              go_wp2
              go_region
              all_goals
                go_simp
                go_roundw
                case rel =>
                  repeat apply Exists.intro
                  refine ⟨?_, rfl⟩
                  exact ⟨A, B, acc ++ [(⟨z0, z1, z2, z3, z4, z5, z6⟩ : P.Wn)], HA0.out trivial _ _ (by omega), HB0.out trivial _ _ (by omega), own6, by rw [List.append_assoc]; exact HQ2.out, bl6.drew⟩
                case measure => simp [lenV]; omega
            · skip
              go_wp2
              go_region
              all_goals
                go_simp
                go_roundw
                case rel =>
                  repeat apply Exists.intro
                  refine ⟨?_, rfl⟩
                  exact ⟨A, B, acc ++ [(⟨z0, z1, z2, z3, z4, z5, z6⟩ : P.Wn)], HA0.out trivial _ _ (by omega), HB1.out _ _ (by omega) (by omega), own6, by rw [List.append_assoc]; exact HQ2.out, bl6.drew⟩
                case measure => simp [lenV]; omega
          · by_cases hcb : cb = 1
            · subst hcb
              go_wp2
              go_region
              all_goals
                go_simp
                go_roundw
                case rel =>
                  repeat apply Exists.intro
                  refine ⟨?_, rfl⟩
                  exact ⟨A, B, acc ++ [(⟨z0, z1, z2, z3, z4, z5, z6⟩ : P.Wn)], HA1.out _ _ (by omega) (by omega), HB0.out trivial _ _ (by omega), own6, by rw [List.append_assoc]; exact HQ2.out, bl6.drew⟩
                case measure => simp [lenV]; omega
            · skip
              go_wp2
              go_region
              all_goals
                go_simp
                go_roundw
                case rel =>
                  repeat apply Exists.intro
                  refine ⟨?_, rfl⟩
                  exact ⟨A, B, acc ++ [(⟨z0, z1, z2, z3, z4, z5, z6⟩ : P.Wn)], HA1.out _ _ (by omega) (by omega), HB1.out _ _ (by omega) (by omega), own6, by rw [List.append_assoc]; exact HQ2.out, bl6.drew⟩
                case measure => simp [lenV]; omega
      · have HQ2 := hide HQ.out
        rw [HQg.out hgt] at HQ2
        have n1 : ¬ s0 < r0 := by omega
        go_wp2
        obtain ⟨m1, rfl⟩ : ∃ m1, m1 = nq := ⟨_, rfl⟩
        go_quiet (fail)
        obtain ⟨X, hX⟩ : ∃ X, (wr.drewN m1).drewN nq = X := ⟨_, rfl⟩
        rw [hX]
        have bX : Below wr.heap.size wr X := by rw [← hX]; exact below_dn (below_dn (Below.refl _ _) _) _
        obtain ⟨xb0, xb1, xb2, xb3, xb4, xb5, xb6⟩ := HgB.out.below bX hpb'
        simp only at xb0 xb1 xb2 xb3 xb4 xb5 xb6
        have own5 := OwnX.below hown bX (Nat.le_refl _)
        have bl5 : Below w.heap.size w X := Below.next hbl bX
        have szX := bl5.size
        clear hX ga0 ga1 ga2 ga3 ga4 ga5 ga6 gb0 gb1 gb2 gb3 gb4 gb5 gb6 hown hbl
        by_cases hcb : cb = 1
        · subst hcb
          go_wp2
          go_region_law (refine step_oneWd rfl (.tmp 56) (.tmp 60) rfl w.heap.size w.heap.size w X _ acc ⟨r0, r1, r2, r3, r4, r5, r6⟩ _ rfl own5 bl5 (Nat.le_refl _) rfl rfl (by omega) szX szX ?_; intro v' w6 own6 bl6 sz6)
          all_goals
            go_simp
            go_roundw
            case rel =>
              repeat apply Exists.intro
              refine ⟨?_, rfl⟩
              exact ⟨(⟨s0, s1, s2, s3, s4, s5, s6⟩ : P.Wn) :: A, B, acc ++ [(⟨r0, r1, r2, r3, r4, r5, r6⟩ : P.Wn)], HrA.out w (Below.refl _ _), HB0.out trivial _ _ (by omega), own6, by rw [List.append_assoc]; exact HQ2.out, bl6⟩
            case measure => simp [lenV]
        · go_wp2
          go_region_law (refine step_oneWd rfl (.tmp 56) (.tmp 60) rfl w.heap.size w.heap.size w X _ acc ⟨r0, r1, r2, r3, r4, r5, r6⟩ _ rfl own5 bl5 (Nat.le_refl _) rfl rfl (by omega) szX szX ?_; intro v' w6 own6 bl6 sz6)
          all_goals
            go_simp
            go_roundw
            case rel =>
              repeat apply Exists.intro
              refine ⟨?_, rfl⟩
              exact ⟨(⟨s0, s1, s2, s3, s4, s5, s6⟩ : P.Wn) :: A, B, acc ++ [(⟨r0, r1, r2, r3, r4, r5, r6⟩ : P.Wn)], HrA.out w (Below.refl _ _), HB1.out _ _ (by omega) (by omega), own6, by rw [List.append_assoc]; exact HQ2.out, bl6⟩
            case measure => simp [lenV]
end Go.Proofs.Ytgfjhcjplhlonaa
