/- What the document's own Beside answers. -/
import Derived.Test.YtgfjhcjplhlonaaRefBp
import Derived.Deep.RegionWith
namespace Go.Proofs.Ytgfjhcjplhlonaa
open Go.RowKit
set_option linter.unusedVariables false
/-- How the loop of Beside stands. -/
def BesAt (w : World) (a b : List P.Wn) (i vo vb : Value) (wr : World) : Prop :=
  ∃ (k : Nat) (c : Int), k ≤ b.length ∧ i = .int .i64 k ∧ OwnW wr w.heap.size vo (P.jn a (b.take k)) ∧ vb = .int .i64 c ∧ c = (if P.crowd (P.jn a (b.take k)) = true then 2 else 0) ∧ Below w.heap.size w wr
def BesIn (O : List P.Wn) (t : Int) (W : World) (i : Value) (w' : World) : Prop := ∃ j : Nat, j ≤ O.length ∧ i = .int .i64 j ∧ (∀ n y, n < j → O[n]? = some y → y.t < t) ∧ ∃ q, w' = W.drewN q
def BesNo (W : World) (i : Value) (w' : World) : Prop := i = .int .i64 0 ∧ ∃ q, w' = W.drewN q
theorem take_drop_crowd (O : List P.Wn) (j : Nat) : P.crowd (O.take j ++ O.drop j) = P.crowd O := by rw [List.take_append_drop]
set_option maxHeartbeats 8000000 in
theorem beside_any (va vb : Value) (a b : List P.Wn) (w : World) (ha : RowW w va a) (hb : RowW w vb b) (hca : P.chkW a = 0) (hcb : P.chkW b = 0) :
    Calls Try.prog 21 #[va, vb] w (WPost w (P.jerr a b) (P.jout a b)) := by
  obtain ⟨hla, hoa, hra⟩ := P.chkW_zero hca
  obtain ⟨hlb, hob, hrb⟩ := P.chkW_zero hcb
  have HA := hide ha
  obtain ⟨xa, ca, hva⟩ := ha.shp
  rw [hva] at HA ⊢
  clear ha hva
  have HTo := hide together_any
  have HJ3 := hide (P.jerr_3 hca hcb)
  have HJ4 := hide (P.jerr_4 hca hcb)
  have HStep := hide (fun k s hs => P.jn_step (a := a) hrb (k := k) (s := s) hs)
  have HLen := hide (fun k => P.jn_length a (b.take k))
  have HNn := hide (fun k => P.jn_n a (b.take k) (fun x hx => (hoa x hx).1) (fun x hx => (hob x (List.mem_of_mem_take hx)).1))
  have HBn := hide (fun x hx => (hob x hx).1)
  have HCa : Hid (P.crowd a = false) := P.crowd_false fun x hx => (hoa x hx).1.2
  obtain ⟨xb, cb, rfl, ⟨hlc, hmax, hnn⟩, hcase⟩ := hb
  unfold maxLen at hmax
  clear hca hcb hoa hob hra hrb hnn
  go_enter Try.func21, Try.ntmps21
  go_wp2_with (at_builtin; go_must (refine wp_appW rfl _ _ rfl w.heap.size w.heap.size w w _ _ [] a (OwnW.nil _ _) HA.out (Below.refl _ _) (Nat.le_refl _) rfl rfl (by simp; omega) (Nat.le_refl _) ?_); intro v0 w0 own0 hb0 _ _)
  go_loopw [15, 6, 7] (fun i vo vb wr => BesAt w a b i vo vb wr) (fun i _ _ _ => b.length - (intOf i).toNat)
  case atStart => exact ⟨0, 0, by omega, rfl, by rw [List.take_zero, P.jn_nil]; exact own0, rfl, by rw [List.take_zero, P.jn_nil, HCa.out]; rfl, hb0⟩
  case round =>
    clear own0 hb0 HA
    obtain ⟨k, c, hk, rfl, hown, rfl, hcc, hb⟩ := hrel
    have hsz := hb.size
    have HCc := hide hcc
    clear hcc
    by_cases hlt : k < b.length
    · rcases hcase with h | ⟨p, o, rfl, hp, hc⟩
      · rw [h] at hlt; simp at hlt
      obtain ⟨s, hs⟩ : ∃ s, b[k]? = some s := ⟨_, List.getElem?_eq_getElem hlt⟩
      obtain ⟨g0, g1, g2, g3, g4, g5, g6⟩ := (RowW.at hc hs).below hb hp
      have HN := hide (HStep.out k s hs).symm
      have HNk := hide (HNn.out k)
      have hsn := HBn.out s (List.mem_of_getElem? hs)
      have HSn := hide hsn.2
      have HSn1 := hide hsn.1
      have hlJ : (P.jn a (b.take k)).length ≤ 2000 := by have := HLen.out k; simp at this; omega
      generalize P.jn a (b.take k) = O at *
      obtain ⟨s0, s1, s2, s3, s4, s5, s6⟩ := s
      simp only at g0 g1 g2 g3 g4 g5 g6 HSn HSn1
      clear hc HStep HLen HNn HBn hs hsn
      have hpr : p < wr.heap.size := by omega
      have n0 : (0 : Int) ≤ (k : Int) := by omega
      have n1 : (k : Int) < (b.length : Int) := by omega
      obtain ⟨xo, co, hvo⟩ := OwnW.shp hown
      rw [hvo] at hown ⊢
      have o5 := OwnX.below hown (bel_a wr (.cells #[.int .i64 s0, .int .i64 s1, .int .i64 s2, .int .i64 s3, .int .i64 s4, .int .i64 s5, .int .i64 s6] 34)) (Nat.le_refl _)
      have b5 := hb.alloc hsz (.cells #[.int .i64 s0, .int .i64 s1, .int .i64 s2, .int .i64 s3, .int .i64 s4, .int .i64 s5, .int .i64 s6] 34)
      have d7 := at7_new wr ⟨s0, s1, s2, s3, s4, s5, s6⟩ 34
      clear hown hb hvo
      go_wp2
      obtain ⟨W, hW⟩ : ∃ W, wr.alloc (.cells #[.int .i64 s0, .int .i64 s1, .int .i64 s2, .int .i64 s3, .int .i64 s4, .int .i64 s5, .int .i64 s6] 34) = W := ⟨_, rfl⟩
      have hsW : wr.heap.size < W.heap.size := by rw [← hW]; simp
      rw [hW] at o5 b5 d7 ⊢
      have s5' := b5.size
      obtain ⟨d0, d1, d2, d3, d4, d5, d6⟩ := id d7
      have HD7 := hide d7
      simp only at d0 d1 d2 d3 d4 d5 d6
      clear hW g0 g1 g2 g3 g4 g5 g6 d7
      rcases id o5.2 with ⟨hvn, h0⟩ | ⟨g, co', cur, hv9, hbg, hgW, hno, hmo, hso, hto⟩
      · obtain rfl : O = [] := List.length_eq_zero_iff.1 h0
        simp only [List.length_nil, Value.slice.injEq, true_and] at hvn
        obtain ⟨rfl, rfl⟩ := hvn
        have HI := hide (P.jn_nil' [(⟨s0, s1, s2, s3, s4, s5, s6⟩ : P.Wn)])
        have HCs : Hid (P.crowd [(⟨s0, s1, s2, s3, s4, s5, s6⟩ : P.Wn)] = P.crowd []) := P.crowd_ins (A := []) (B := []) HSn.out
        simp only [List.length_nil] at *
        go_loopw [10] (fun i w' => BesNo W i w') (fun i _ => 0)
        case atStart => exact ⟨rfl, 0, rfl⟩
        case round =>
          obtain ⟨rfl, q, rfl⟩ := hrel
          go_wp2
          go_quiet (fail)
          go_wp2
          obtain ⟨n1, rfl⟩ : ∃ n1, n1 = nq := ⟨_, rfl⟩
          go_quiet (fail)
          go_wp2
          obtain ⟨X, hX⟩ : ∃ X, ((W.drewN q).drewN n1).drewN nq = X := ⟨_, rfl⟩
          rw [hX]
          have bX : Below w.heap.size w X := by rw [← hX]; exact below_dn (below_dn (below_dn b5 _) _) _
          obtain ⟨e0, e1, e2, e3, e4, e5, e6⟩ : At7 X wr.heap.size 0 ⟨s0, s1, s2, s3, s4, s5, s6⟩ := by rw [← hX]; exact (At7.dn (At7.dn (At7.dn HD7.out q) n1) nq)
          simp only at e0 e1 e2 e3 e4 e5 e6
          go_region_law (first
            | (refine step_dstW rfl (.tmp 67) (.tmp 73) rfl w7 none 0 _ [] ([(⟨s0, s1, s2, s3, s4, s5, s6⟩ : P.Wn)] ++ []) (RowX.nil _ _ _) own7.row (by simp) rfl rfl (by simp) ?_; intro v8 w8 own8 b8)
            | (refine step_appW rfl (.tmp 69) (.tmp 72) rfl X.heap.size X.heap.size X _ _ _ [(⟨s0, s1, s2, s3, s4, s5, s6⟩ : P.Wn)] [] (own_oneX wnC 7 wnC_len X X.heap.size (⟨s0, s1, s2, s3, s4, s5, s6⟩ : P.Wn) 34 (Nat.le_refl _)) (RowX.nil _ _ _) ((bel_a X (.cells #[.int .i64 s0, .int .i64 s1, .int .i64 s2, .int .i64 s3, .int .i64 s4, .int .i64 s5, .int .i64 s6] 34)).drew) (Nat.le_refl _) rfl rfl (by simp) (show X.heap.size ≤ (X.alloc _).heap.size by simp) ?_; intro v7 w7 own7 b7 _ _))
          all_goals
            go_wp2
            go_roundw
            case rel => exact ⟨k + 1, c, by omega, by go_num, by rw [← HN.out, HI.out]; exact OwnX.base own8 (Nat.le_trans bX.size b7.size), rfl, by rw [← HN.out, HI.out, HCs.out, ← HCc.out], Below.next (Below.next bX b7) b8⟩
            case measure => simp [intOf]; omega
      · simp only [Value.slice.injEq, true_and] at hv9
        obtain ⟨rfl, rfl⟩ := hv9
        have HCO := hide (OwnW.row o5)
        have HTD := hide (fun j => take_drop_crowd O j)
        unfold maxLen at hmo
        clear hgW hso hto cur
        go_loopw [10] (fun i w' => BesIn O s0 W i w') (fun i _ => O.length - (intOf i).toNat)
        case atStart => exact ⟨0, by omega, rfl, fun n y hn => by omega, 0, rfl⟩
        case round =>
          obtain ⟨j, hj, rfl, hlow, q, rfl⟩ := hrel
          have HLow := hide hlow
          clear hlow
          replace HTD := hide (HTD.out j)
          by_cases hjl : j < O.length
          · obtain ⟨_, _, hv8, ⟨hx1, hx2, hx3⟩, hcO⟩ := HCO.out
            simp only [Value.slice.injEq, true_and] at hv8
            obtain ⟨rfl, rfl⟩ := hv8
            clear hx1 hx2 hx3
            rcases hcO with h | ⟨po, oo, hpo, hgo, hcc⟩
            · rw [h] at hjl; simp at hjl
            simp only [Option.some.injEq, Addr.mk.injEq, and_true] at hpo
            obtain ⟨rfl, rfl⟩ := hpo
            obtain ⟨x, hx⟩ : ∃ x, O[j]? = some x := ⟨_, List.getElem?_eq_getElem hjl⟩
            have cx := RowW.at hcc hx
            rw [Nat.zero_add] at cx
            obtain ⟨c0, c1, c2, c3, c4, c5, c6⟩ := id cx
            have HCx := hide cx
            have i0 : (0 : Int) ≤ (j : Int) := by omega
            have i1 : (j : Int) < (O.length : Int) := by omega
            have HX := hide hx
            clear hx hcc cx
            obtain ⟨x0, x1, x2, x3, x4, x5, x6⟩ := x
            simp only at c0 c1 c2 c3 c4 c5 c6
            by_cases hxs : x0 < s0
            · go_wp2
              go_quiet (fail)
              go_wp2
              go_roundw
              case rel =>
                refine ⟨j + 1, by omega, by go_num, fun n y hn hy => ?_, q + nq, rfl⟩
                rcases Nat.lt_or_ge n j with h | h
                · exact HLow.out n y h hy
                · obtain rfl : n = j := by omega
                  rw [HX.out] at hy; cases hy; exact hxs
              case measure => simp [intOf]; omega
            · have tx : decide (x0 < s0) = false := by simpa using hxs
              by_cases hgt : s0 < x0
              · have te : (x0 == s0) = false := by rw [beq_eq_false_iff_ne]; omega
                go_wp2
                go_quiet (fail)
                go_wp2
                obtain ⟨n1, rfl⟩ : ∃ n1, n1 = nq := ⟨_, rfl⟩
                go_quiet (fail)
                go_wp2
                obtain ⟨X, hX⟩ : ∃ X, ((W.drewN q).drewN n1).drewN nq = X := ⟨_, rfl⟩
                rw [hX]
                have bX : Below w.heap.size w X := by rw [← hX]; exact below_dn (below_dn (below_dn b5 _) _) _
                obtain ⟨e0, e1, e2, e3, e4, e5, e6⟩ : At7 X wr.heap.size 0 ⟨s0, s1, s2, s3, s4, s5, s6⟩ := by rw [← hX]; exact (At7.dn (At7.dn (At7.dn HD7.out q) n1) nq)
                simp only at e0 e1 e2 e3 e4 e5 e6
                have oX : OwnW X w.heap.size (.slice (some ⟨g, 0, none⟩) O.length co) O := by rw [← hX]; exact o5
                have HI := hide (P.jn_ins (s := ⟨s0, s1, s2, s3, s4, s5, s6⟩) O j (by omega) HLow.out (fun y hy => by rw [HX.out] at hy; cases hy; exact hgt))
                have HPre := hide (fun (w' : World) (h : Below X.heap.size X w') => ((OwnW.row oX).below h (Nat.le_refl _)).pre j (by omega) j ⟨Nat.le_refl _, by unfold maxLen; omega⟩)
                have hcj : ¬ co = j := by omega
                have jc : (j : Int) ≤ (co : Int) := by omega
                have jc2 : j ≤ co := by omega
                have jo : (j : Int) ≤ (O.length : Int) := by omega
                have HSuf := hide (fun (w' : World) (h : Below X.heap.size X w') => ((OwnW.row oX).below h (Nat.le_refl _)).part j (O.length - j) (by omega) (j * 7) (co - j) (by omega) rfl)
                rw [List.take_of_length_le (by simp)] at HSuf
                clear c0 c1 c2 c3 c4 c5 c6 d0 d1 d2 d3 d4 d5 d6
                go_region_law (first
                  | (refine step_dstW rfl (.tmp 67) (.tmp 73) rfl w7 _ j _ (O.take j) ([(⟨s0, s1, s2, s3, s4, s5, s6⟩ : P.Wn)] ++ O.drop j) (HPre.out _ b7) own7.row (by simp) rfl rfl (by first | (simp; omega) | simp) ?_; intro v8 w8 own8 b8)
                  | (refine step_appW rfl (.tmp 69) (.tmp 72) rfl X.heap.size X.heap.size X _ _ _ [(⟨s0, s1, s2, s3, s4, s5, s6⟩ : P.Wn)] (O.drop j) (own_oneX wnC 7 wnC_len X X.heap.size (⟨s0, s1, s2, s3, s4, s5, s6⟩ : P.Wn) 34 (Nat.le_refl _)) (HSuf.out _ ((bel_a X (.cells #[.int .i64 s0, .int .i64 s1, .int .i64 s2, .int .i64 s3, .int .i64 s4, .int .i64 s5, .int .i64 s6] 34)).drew)) ((bel_a X (.cells #[.int .i64 s0, .int .i64 s1, .int .i64 s2, .int .i64 s3, .int .i64 s4, .int .i64 s5, .int .i64 s6] 34)).drew) (Nat.le_refl _) rfl rfl (by first | (simp; omega) | simp) (show X.heap.size ≤ (X.alloc _).heap.size by simp) ?_; intro v7 w7 own7 b7 _ _))
                all_goals
                  go_wp2
                  go_roundw
                  case rel => exact ⟨k + 1, c, by omega, by go_num, by rw [← HN.out, HI.out]; exact OwnX.base own8 (Nat.le_trans bX.size b7.size), rfl, by rw [← HN.out, HI.out, P.crowd_ins HSn.out, HTD.out, ← HCc.out], Below.next (Below.next bX b7) b8⟩
                  case measure => simp [intOf]; omega
              · have hxe : x0 = s0 := by omega
                have te : (x0 == s0) = true := by simp [hxe]
                have HP := hide (P.jn_put (s := ⟨s0, s1, s2, s3, s4, s5, s6⟩) O j ⟨x0, x1, x2, x3, x4, x5, x6⟩ HX.out HLow.out hxe)
                have hzn : (P.bo ⟨x0, x1, x2, x3, x4, x5, x6⟩ ⟨s0, s1, s2, s3, s4, s5, s6⟩).n = x1 + s1 := by
                  have h1 := HNk.out _ (List.mem_of_getElem? HX.out)
                  have h2 := HSn.out
                  have h3 := HSn1.out
                  simp only at h1
                  simp only [P.bo, IntKind.wrap_i64]; omega
                have HCw := hide (P.crowd_set (z := P.bo ⟨x0, x1, x2, x3, x4, x5, x6⟩ ⟨s0, s1, s2, s3, s4, s5, s6⟩) HX.out (by rw [hzn]; have := HSn1.out; simp only; omega))
                have HTx := hide (fun w => HTo.out ⟨x0, x1, x2, x3, x4, x5, x6⟩ ⟨s0, s1, s2, s3, s4, s5, s6⟩ w)
                clear hzn
                generalize P.bo ⟨x0, x1, x2, x3, x4, x5, x6⟩ ⟨s0, s1, s2, s3, s4, s5, s6⟩ = z at *
                obtain ⟨z0, z1, z2, z3, z4, z5, z6⟩ := z
                simp only [wnV] at HTx
                simp only at HCw
                clear hxe hgt hxs
                go_wp2
                go_quiet (fail)
                go_wp2
                obtain ⟨n1, rfl⟩ : ∃ n1, n1 = nq := ⟨_, rfl⟩
                go_quiet (fail)
                go_wp2
                obtain ⟨X, hX⟩ : ∃ X, ((W.drewN q).drewN n1).drewN nq = X := ⟨_, rfl⟩
                rw [hX]
                have bX : Below w.heap.size w X := by rw [← hX]; exact below_dn (below_dn (below_dn b5 _) _) _
                obtain ⟨e0, e1, e2, e3, e4, e5, e6⟩ : At7 X wr.heap.size 0 ⟨s0, s1, s2, s3, s4, s5, s6⟩ := by rw [← hX]; exact (At7.dn (At7.dn (At7.dn HD7.out q) n1) nq)
                simp only at e0 e1 e2 e3 e4 e5 e6
                have oX : OwnW X w.heap.size (.slice (some ⟨g, 0, none⟩) O.length co) O := by rw [← hX]; exact o5
                have hxX : At7 X g (j * 7) ⟨x0, x1, x2, x3, x4, x5, x6⟩ := by rw [← hX]; exact (At7.dn (At7.dn (At7.dn HCx.out q) n1) nq)
                have hgX : g < X.heap.size := (OwnX.blk oX).2
                obtain ⟨p0, p1, p2, p3, p4, p5, p6⟩ := id hxX
                simp only at p0 p1 p2 p3 p4 p5 p6
                have HW2 := hide (fun w2 (h : Below X.heap.size X w2) => (show OwnW w2 w.heap.size (.slice (some ⟨g, 0, none⟩) O.length co) O from OwnX.below oX h (Nat.le_refl _)))
                have HX7 := hide (fun w2 (h : Below X.heap.size X w2) => hxX.below h hgX)
                clear c0 c1 c2 c3 c4 c5 c6 d0 d1 d2 d3 d4 d5 d6 hX oX hxX o5
                go_region_with (go_at_call 27; refine (HTx.out _).mono ?_; rintro e w2 ⟨rfl, hb2⟩; replace hb2 := below_of_drew hb2; have hO3 := HW2.out w2 hb2; obtain ⟨k0, k1, k2, k3, k4, k5, k6⟩ := HX7.out w2 hb2; have f0 := OwnX.unfrozen hO3 (j * 7); have f1 := OwnX.unfrozen hO3 (j * 7 + 1); have f2 := OwnX.unfrozen hO3 (j * 7 + 2); have f3 := OwnX.unfrozen hO3 (j * 7 + 3); have f4 := OwnX.unfrozen hO3 (j * 7 + 4); have f5 := OwnX.unfrozen hO3 (j * 7 + 5); have f6 := OwnX.unfrozen hO3 (j * 7 + 6))
                all_goals
                  have hset := OwnX.set wnC_len hO3 hjl ⟨z0, z1, z2, z3, z4, z5, z6⟩
                  have hblw := below_setRow (wnC ⟨z0, z1, z2, z3, z4, z5, z6⟩) (Below.next bX hb2) (g := g) (o := j * 7) hbg
                  obtain ⟨Y, hY⟩ : ∃ Y, Y = setRowC w2 g (j * 7) (wnC ⟨z0, z1, z2, z3, z4, z5, z6⟩) := ⟨_, rfl⟩
                  change Exit.then _ _ _ _ (setRowC w2 g (j * 7) (wnC ⟨z0, z1, z2, z3, z4, z5, z6⟩))
                  rw [← hY] at hset hblw ⊢
                  obtain ⟨y0, y1, y2, y3, y4, y5, y6⟩ : At7 Y g (j * 7) ⟨z0, z1, z2, z3, z4, z5, z6⟩ := by
                    obtain ⟨_, _, hv7, _, hc7⟩ := OwnW.row hset
                    simp only [Value.slice.injEq] at hv7
                    rcases hc7 with h | ⟨b7, o7, h7, _, hcell7⟩
                    · have h9 := congrArg List.length h
                      rw [List.length_set, List.length_nil] at h9
                      omega
                    · rw [← hv7.1] at h7
                      simp only [Option.some.injEq, Addr.mk.injEq, and_true] at h7
                      obtain ⟨rfl, rfl⟩ := h7
                      have := RowW.at hcell7 (k := j) (x := ⟨z0, z1, z2, z3, z4, z5, z6⟩) (by rw [List.getElem?_set_self hjl])
                      rwa [Nat.zero_add] at this
                  simp only at y0 y1 y2 y3 y4 y5 y6
                  have HSet := hide hset
                  have Hblw := hide hblw
                  clear hY hset hblw hO3 k0 k1 k2 k3 k4 k5 k6 f0 f1 f2 f3 f4 f5 f6 hb2 HW2 HX7 p0 p1 p2 p3 p4 p5 p6 e0 e1 e2 e3 e4 e5 e6
                  by_cases hN : 1000000000 < z1
                  · have HC2 : Hid (P.crowd (O.set j ⟨z0, z1, z2, z3, z4, z5, z6⟩) = true) := by show _ = _; rw [HCw.out]; simp [hN]
                    go_wp2
                    go_roundw
                    case rel => exact ⟨k + 1, 2, by omega, by go_num, by rw [← HN.out, HP.out]; exact HSet.out, rfl, by rw [← HN.out, HP.out, HC2.out]; rfl, Hblw.out⟩
                    case measure => simp [intOf]; omega
                  · have HC2 : Hid (P.crowd (O.set j ⟨z0, z1, z2, z3, z4, z5, z6⟩) = P.crowd O) := by show _ = _; rw [HCw.out]; simp [hN]
                    have hdN : decide (1000000000 < z1) = false := by simpa using hN
                    clear hN
                    go_wp2
                    go_roundw
                    case rel => exact ⟨k + 1, c, by omega, by go_num, by rw [← HN.out, HP.out]; exact HSet.out, rfl, by rw [← HN.out, HP.out, HC2.out, ← HCc.out], Hblw.out⟩
                    case measure => simp [intOf]; omega
          · have tj : decide ((j : Int) < (O.length : Int)) = false := by simp; omega
            obtain rfl : j = O.length := by omega
            go_wp2
            go_quiet (fail)
            go_wp2
            obtain ⟨n1, rfl⟩ : ∃ n1, n1 = nq := ⟨_, rfl⟩
            go_quiet (fail)
            go_wp2
            obtain ⟨X, hX⟩ : ∃ X, ((W.drewN q).drewN n1).drewN nq = X := ⟨_, rfl⟩
            rw [hX]
            have bX : Below w.heap.size w X := by rw [← hX]; exact below_dn (below_dn (below_dn b5 _) _) _
            obtain ⟨e0, e1, e2, e3, e4, e5, e6⟩ : At7 X wr.heap.size 0 ⟨s0, s1, s2, s3, s4, s5, s6⟩ := by rw [← hX]; exact (At7.dn (At7.dn (At7.dn HD7.out q) n1) nq)
            simp only at e0 e1 e2 e3 e4 e5 e6
            have oX : OwnW X w.heap.size (.slice (some ⟨g, 0, none⟩) O.length co) O := by rw [← hX]; exact o5
            have HI := hide (P.jn_ins (s := ⟨s0, s1, s2, s3, s4, s5, s6⟩) O O.length (Nat.le_refl _) HLow.out (fun y hy => by rw [List.getElem?_eq_none (Nat.le_refl _)] at hy; cases hy))
            have HPre := hide (fun (w' : World) (h : Below X.heap.size X w') => ((OwnW.row oX).below h (Nat.le_refl _)).pre O.length (by omega) O.length ⟨Nat.le_refl _, by unfold maxLen; omega⟩)
            have jc : (O.length : Int) ≤ (co : Int) := by omega
            have jj : (0 : Int) ≤ (O.length : Int) := by omega
            have HSuf : Hid (∀ (w' : World) (x : Option Addr) (c : Nat), c ≤ 2 ^ 63 - 1 → (x = none → c = 0) → RowW w' (.slice x 0 c) (O.drop O.length)) := by
              intro w' x c h1 h2
              rw [List.drop_of_length_le (by omega)]
              exact RowX.empty' _ _ w' x c h1 h2
            clear d0 d1 d2 d3 d4 d5 d6
            by_cases hcj : co = O.length
            · have hz : O.length - O.length = 0 := by omega
              have hzc : co - O.length = 0 := by omega
              go_region_law (first
                | (refine step_dstW rfl (.tmp 67) (.tmp 73) rfl w7 _ O.length _ (O.take O.length) ([(⟨s0, s1, s2, s3, s4, s5, s6⟩ : P.Wn)] ++ O.drop O.length) (HPre.out _ b7) own7.row (by simp) rfl rfl (by first | (simp; omega) | simp) ?_; intro v8 w8 own8 b8)
                | (refine step_appW rfl (.tmp 69) (.tmp 72) rfl X.heap.size X.heap.size X _ _ _ [(⟨s0, s1, s2, s3, s4, s5, s6⟩ : P.Wn)] (O.drop O.length) (own_oneX wnC 7 wnC_len X X.heap.size (⟨s0, s1, s2, s3, s4, s5, s6⟩ : P.Wn) 34 (Nat.le_refl _)) (HSuf.out _ _ _ (by omega) (fun h => by cases h)) ((bel_a X (.cells #[.int .i64 s0, .int .i64 s1, .int .i64 s2, .int .i64 s3, .int .i64 s4, .int .i64 s5, .int .i64 s6] 34)).drew) (Nat.le_refl _) rfl rfl (by first | (simp; omega) | simp) (show X.heap.size ≤ (X.alloc _).heap.size by simp) ?_; intro v7 w7 own7 b7 _ _))
              all_goals
                go_wp2
                go_roundw
                case rel => exact ⟨k + 1, c, by omega, by go_num, by rw [← HN.out, HI.out]; exact OwnX.base own8 (Nat.le_trans bX.size b7.size), rfl, by rw [← HN.out, HI.out, P.crowd_ins HSn.out, HTD.out, ← HCc.out], Below.next (Below.next bX b7) b8⟩
                case measure => simp [intOf]; omega
            · skip
              go_region_law (first
                | (refine step_dstW rfl (.tmp 67) (.tmp 73) rfl w7 _ O.length _ (O.take O.length) ([(⟨s0, s1, s2, s3, s4, s5, s6⟩ : P.Wn)] ++ O.drop O.length) (HPre.out _ b7) own7.row (by simp) rfl rfl (by first | (simp; omega) | simp) ?_; intro v8 w8 own8 b8)
                | (refine step_appW rfl (.tmp 69) (.tmp 72) rfl X.heap.size X.heap.size X _ _ _ [(⟨s0, s1, s2, s3, s4, s5, s6⟩ : P.Wn)] (O.drop O.length) (own_oneX wnC 7 wnC_len X X.heap.size (⟨s0, s1, s2, s3, s4, s5, s6⟩ : P.Wn) 34 (Nat.le_refl _)) (HSuf.out _ _ _ (by omega) (fun h => by cases h)) ((bel_a X (.cells #[.int .i64 s0, .int .i64 s1, .int .i64 s2, .int .i64 s3, .int .i64 s4, .int .i64 s5, .int .i64 s6] 34)).drew) (Nat.le_refl _) rfl rfl (by first | (simp; omega) | simp) (show X.heap.size ≤ (X.alloc _).heap.size by simp) ?_; intro v7 w7 own7 b7 _ _))
              all_goals
                go_wp2
                go_roundw
                case rel => exact ⟨k + 1, c, by omega, by go_num, by rw [← HN.out, HI.out]; exact OwnX.base own8 (Nat.le_trans bX.size b7.size), rfl, by rw [← HN.out, HI.out, P.crowd_ins HSn.out, HTD.out, ← HCc.out], Below.next (Below.next bX b7) b8⟩
                case measure => simp [intOf]; omega
    · have hd : decide ((k : Int) < (b.length : Int)) = false := by simp; omega
      obtain rfl : k = b.length := by omega
      rw [List.take_length] at hown HCc
      obtain ⟨xo, co, hvo⟩ := OwnW.shp hown
      rw [hvo] at hown ⊢
      clear hvo HNn HLen HStep hcase
      generalize P.jn a b = O at *
      cases hcr : P.crowd O with
      | true =>
        obtain ⟨j1, j2⟩ := HJ3.out (.inr hcr)
        have hc2 : c = 2 := by rw [HCc.out, hcr]; rfl
        have HJ1 := hide j1
        have HJ2 := hide j2
        clear j1 j2 hcr HCc
        subst hc2
        go_wp2
        go_ret2
        exact ⟨_, by rw [HJ1.out]; rfl, by rw [HJ2.out]; exact OwnW.nil _ _, hb⟩
      | false =>
        have hc2 : c = 0 := by rw [HCc.out, hcr]; rfl
        subst hc2
        by_cases hm : 1000 < O.length
        · obtain ⟨j1, j2⟩ := HJ3.out (.inl hm)
          have HJ1 := hide j1
          have HJ2 := hide j2
          have hdm : decide (1000 < (O.length : Int)) = true := by simp; omega
          clear j1 j2 hcr HCc
          go_wp2
          go_ret2
          exact ⟨_, by rw [HJ1.out]; rfl, by rw [HJ2.out]; exact OwnW.nil _ _, hb⟩
        · obtain ⟨j1, j2⟩ := HJ4.out (by omega) hcr
          have HJ1 := hide j1
          have HJ2 := hide j2
          have hdm : decide (1000 < (O.length : Int)) = false := by simp; omega
          clear j1 j2 hcr HCc
          go_wp2
          go_ret2
          exact ⟨_, by rw [HJ1.out]; rfl, by rw [HJ2.out]; exact hown, hb⟩
end Go.Proofs.Ytgfjhcjplhlonaa
