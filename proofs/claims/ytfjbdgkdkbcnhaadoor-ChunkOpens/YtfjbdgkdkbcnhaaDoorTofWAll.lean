/- Several texts in one. -/
import Derived.Test.YtfjbdgkdkbcnhaaDoorPlainAll
import Derived.Test.YtfjbdgkdkbcnhaaDoorTofPAll
/- What the document's own TimesOf answers. -/
namespace Go.Proofs.YtfjbdgkdkbcnhaaDoor
open P
namespace D
open Go.RowKit
set_option linter.unusedVariables false
theorem strB_inj (a b : List Bool) (h : (P.strB a).toList = (P.strB b).toList) : a = b := by
  rw [ByteArray.toList_eq, ByteArray.toList_eq, P.strB_data, P.strB_data] at h
  exact List.map_inj_right (f := fun b : Bool => UInt8.ofNat (48 + b.toNat)) (by decide) |>.1 h
theorem str_ne (a b : List Bool) (h : a ≠ b) : ((P.strB a).toList == (P.strB b).toList) = false := by
  rw [beq_eq_false_iff_ne]; intro e; exact h (strB_inj a b e)
theorem cOf_pos (k m : Nat) (R : List Bool) (h : 0 < k) (hm : P.wd k = m) : P.cOf k R = P.rsg (P.tkX R m) := by
  unfold P.cOf; rw [if_neg (by omega), hm]
theorem frozen_alloc {w : World} {p : Addr} {v : Value} (hc : w.cell? p = some v) (hf : w.frozen? p = false) (o : Obj) : (w.alloc o).frozen? p = false :=
  (((Below.refl w.heap.size w).alloc (Nat.le_refl _) o).frozen (World.block_lt_of_cell? w p hc)).trans hf
theorem own_cells {t : TypeId} {k : IntKind} {w : World} {base g c : Nat} {l : List Int} (h : OwnK t k w base (.slice (some ⟨g, 0, none⟩) l.length c) l) : ∀ j, j < l.length → w.cell? ⟨g, j, none⟩ = some (.int k (l.getD j 0)) := by
  intro j hj
  obtain ⟨a', c', hv', _, hcase⟩ := h.row
  simp only [Value.slice.injEq] at hv'
  obtain ⟨ha, -, -⟩ := hv'
  rcases hcase with h0 | ⟨b, off, hb, _, hcell⟩
  · rw [h0] at hj; simp at hj
  · rw [← ha] at hb
    simp at hb
    obtain ⟨rfl, rfl⟩ := hb
    have := hcell j hj
    rwa [Nat.zero_add] at this
theorem lst_at (acc : List Int) (h : 0 < acc.length) : P.lst acc acc.length = acc.getD (acc.length - 1) 0 := by unfold P.lst; rw [if_neg (by omega)]
theorem stp_two (acc : List Int) (h : 1 < acc.length) : P.stp acc acc.length = wrap64 (acc.getD (acc.length - 1) 0 - acc.getD (acc.length - 2) 0) := by unfold P.stp; rw [if_neg (by omega)]
theorem stp_few (acc : List Int) (h : acc.length ≤ 1) : P.stp acc acc.length = 0 := by unfold P.stp; rw [if_pos h]
set_option maxRecDepth 100000 in
set_option maxHeartbeats 8000000 in
theorem timesOf_any (bs : List Bool) (w : World) (hn : bs.length ≤ 4000) :
    Calls Tryd.prog 32 #[.string (P.strB bs)] w fun e w' => Below w.heap.size w w' ∧ ∃ (acc : List Int) (a : Option Addr) (c : Nat) (ok : Bool),
      OwnK 2 .i64 w' w.heap.size (.slice a acc.length c) acc ∧ e = .returned (.tuple #[.slice a acc.length c, .bool ok]) ∧ (ok = true → Isx bs acc) ∧ (∀ m, Isx bs m → acc = m ∧ ok = true) := by
  have HT16 : Hid (∀ (w' : World), w'.cell? ⟨w.heap.size, 0, none⟩ = some (.string (P.strB bs)) → w'.frozen? ⟨w.heap.size, 0, none⟩ = false → Calls Tryd.prog 51 #[.int .i64 16, .pointer (some ⟨w.heap.size, 0, none⟩)] w' fun e w2 => e = .returned (.string (P.strB (P.tkX bs 16))) ∧ w2.cell? ⟨w.heap.size, 0, none⟩ = some (.string (P.strB (P.tkR bs 16))) ∧ w2.frozen? ⟨w.heap.size, 0, none⟩ = false ∧
      (∀ (base : Nat) (v : Value) (l : List Int), w.heap.size < base → OwnK 2 .i64 w' base v l → OwnK 2 .i64 w2 base v l) ∧ (∀ w0, Below w.heap.size w0 w' → Below w.heap.size w0 w2) ∧ w'.heap.size ≤ w2.heap.size) := fun w' hc hf => take_keep w.heap.size 16 bs w' hc hf (by decide) hn
  have hx16 := P.tkX_len bs 16 (by decide)
  have HV16 := hide (fun w => valueOf_any (P.tkX bs 16) w hx16)
  have hC0 := P.cnd_start bs
  have hr0 := P.tkR_len bs 16
  have hm : P.val (P.tkX bs 16) < 65536 := by
    have h1 := P.val_lt (P.tkX bs 16)
    have h2 : (P.tkX bs 16).length ≤ 16 := by unfold P.tkX; split; simp; rw [List.length_take]; omega
    have h3 : (2 : Nat) ^ (P.tkX bs 16).length ≤ 2 ^ 16 := Nat.pow_le_pow_right (by decide) h2
    omega
  generalize P.tkR bs 16 = rs0 at *
  generalize P.val (P.tkX bs 16) = many at *
  generalize P.strB (P.tkX bs 16) = sx at *
  clear hx16
  go_enter Tryd.func32, Tryd.ntmps32
  go_wp2_with (first
    | (go_at_call 51; go_must (refine (HT16.out _ (by simp) (by simp)).mono ?_); rintro e w2 ⟨rfl, hc2, hf2, _, hbl2, hsz2⟩)
    | (go_at_call 43; go_must (refine (HV16.out _).mono ?_); rintro e w' ⟨rfl, rfl⟩))
  have hb2 := hbl2 w ((Below.refl _ _).alloc (Nat.le_refl _) _)
  have hs2 : w.heap.size + 1 ≤ w'.heap.size := by simp at hsz2; omega
  clear hbl2 hsz2 HT16 HV16
  go_loopw [6, 8] (fun vo i wr => ∃ (acc : List Int) (a : Option Addr) (c : Nat) (rs : List Bool), acc.length ≤ many ∧ P.I64 acc ∧ rs.length ≤ 4000 ∧ P.Cnd bs many acc rs ∧ vo = .slice a acc.length c ∧ i = .int .i64 acc.length ∧
      wr.cell? ⟨w.heap.size, 0, none⟩ = some (.string (P.strB rs)) ∧ wr.frozen? ⟨w.heap.size, 0, none⟩ = false ∧ OwnK 2 .i64 wr (w.heap.size + 1) (.slice a acc.length c) acc ∧ Below w.heap.size w wr ∧ w.heap.size + 1 ≤ wr.heap.size) (fun _ i _ => many - (intOf i).toNat)
  case atStart => exact ⟨[], none, 0, rs0, by simp, (fun x hx => by cases hx), by omega, hC0, rfl, rfl, hc2, hf2, OwnK.nil _ _ _ _, hb2, hs2⟩
  case round =>
    clear hc2 hf2 hb2 hs2 hC0 hr0
    obtain ⟨acc, a, c, rs, hacc, hi, hrl, hC, rfl, rfl, hc, hf, hown, hb, hsz⟩ := hrel
    have hrsz := P.strB_size rs
    by_cases hlt : acc.length < many ∧ 0 < rs.length
    · obtain ⟨hlt1, hlt2⟩ := hlt
      have hs0 : 0 < (P.strB rs).size := by omega
      have HTk : Hid (∀ (n : Nat) (rs : List Bool) (w' : World), n ≤ 64 → rs.length ≤ 4000 → w'.cell? ⟨w.heap.size, 0, none⟩ = some (.string (P.strB rs)) → w'.frozen? ⟨w.heap.size, 0, none⟩ = false → Calls Tryd.prog 51 #[.int .i64 n, .pointer (some ⟨w.heap.size, 0, none⟩)] w' fun e w2 => e = .returned (.string (P.strB (P.tkX rs n))) ∧ w2.cell? ⟨w.heap.size, 0, none⟩ = some (.string (P.strB (P.tkR rs n))) ∧ w2.frozen? ⟨w.heap.size, 0, none⟩ = false ∧
          (∀ (base : Nat) (v : Value) (l : List Int), w.heap.size < base → OwnK 2 .i64 w' base v l → OwnK 2 .i64 w2 base v l) ∧ (∀ w0, Below w.heap.size w0 w' → Below w.heap.size w0 w2) ∧ w'.heap.size ≤ w2.heap.size) := fun n rs w' h1 h2 hc hf => take_keep w.heap.size n rs w' hc hf h1 h2
      by_cases hz : acc.length = 0
      · have htest : ((acc.length : Int) == 0) = true := by rw [beq_iff_eq]; omega
        have HT64 : Hid (∀ (w' : World), w'.cell? ⟨w.heap.size, 0, none⟩ = some (.string (P.strB rs)) → w'.frozen? ⟨w.heap.size, 0, none⟩ = false → Calls Tryd.prog 51 #[.int .i64 64, .pointer (some ⟨w.heap.size, 0, none⟩)] w' fun e w2 => e = .returned (.string (P.strB (P.tkX rs 64))) ∧ w2.cell? ⟨w.heap.size, 0, none⟩ = some (.string (P.strB (P.tkR rs 64))) ∧ w2.frozen? ⟨w.heap.size, 0, none⟩ = false ∧
          (∀ (base : Nat) (v : Value) (l : List Int), w.heap.size < base → OwnK 2 .i64 w' base v l → OwnK 2 .i64 w2 base v l) ∧ (∀ w0, Below w.heap.size w0 w' → Below w.heap.size w0 w2) ∧ w'.heap.size ≤ w2.heap.size) := fun w' hc hf => HTk.out 64 rs w' (by decide) hrl hc hf
        have HC1 := hide (P.cnd_first hC hz hlt1)
        have HV := hide (fun w => valueOf_any (P.tkX rs 64) w (P.tkX_len rs 64 (by decide)))
        have hvl : P.val (P.tkX rs 64) < 18446744073709551616 := by
          have h1 := P.val_lt (P.tkX rs 64)
          have h2 := P.tkX_len rs 64 (by decide)
          have h3 : (2 : Nat) ^ (P.tkX rs 64).length ≤ 2 ^ 64 := Nat.pow_le_pow_right (by decide) h2
          omega
        have hrl2 := P.tkR_len rs 64
        have HI := hide (fun y => P.i64_snoc hi (P.wrap64_lo y) (P.wrap64_hi y))
        generalize P.val (P.tkX rs 64) = f at *
        generalize P.strB (P.tkX rs 64) = s64 at *
        generalize P.tkR rs 64 = rs' at *
        clear hC hz HTk hi hrsz
        generalize P.strB rs = s at *
        go_wp2_with (first
          | (go_at_call 51; go_must (refine (HT64.out _ hc hf).mono ?_); rintro e w3 ⟨rfl, hc3, hf3, ho3, hbl3, hsz3⟩; have hown3 := ho3 _ _ _ (Nat.lt_succ_self _) hown; have hb3 := hbl3 _ hb; have hs3 := Nat.le_trans hsz hsz3; clear ho3 hbl3 hsz3)
          | (go_at_call 43; go_must (refine (HV.out _).mono ?_); rintro e w4 ⟨rfl, rfl⟩)
          | (at_builtin; go_must (refine wp_app1K rfl _ _ 38 2 .i64 8 rfl Tryd.underlying38 Tryd.info2 (by decide) (w.heap.size + 1) (w.heap.size + 1) w4 w4 _ acc _ hown3 (Below.refl _ _) (Nat.le_refl _) rfl rfl (by omega) hs3 ?_); intro v' w5 hown' hb' hsz' hg'; obtain ⟨a', cap', hv'⟩ := hown'.shape; rw [hv'] at hown' ⊢; clear hv'))
        go_roundw
        case rel =>
          have e1 : ∀ y : Int, (acc ++ [y]).length = acc.length + 1 := fun y => by simp
          refine ⟨acc ++ [wrap64 f], a', cap', rs', by rw [e1]; omega, HI.out f, by omega, HC1.out, by rw [e1], by rw [e1]; simp, (hb'.cell (p := ⟨w.heap.size, 0, none⟩) (by simp)).trans hc3, (hb'.frozen (p := ⟨w.heap.size, 0, none⟩) (by simp)).trans hf3, hown', hb3.trans (hb'.mono (by omega)), by omega⟩
        case measure => simp [intOf]; omega
      · have htest : ((acc.length : Int) == 0) = false := by rw [beq_eq_false_iff_ne]; omega
        have hpos : 0 < acc.length := by omega
        obtain ⟨g, cg, hv⟩ := Joins.ownsRow_form hown hpos
        simp only [Value.slice.injEq] at hv
        obtain ⟨rfl, -, hcc⟩ := hv
        subst hcc
        clear hz
        generalize hsg : P.strB rs = s at hc
        clear hrsz
        have hs1 : 0 < s.size := by rw [← hsg]; exact hs0
        go_wp2_with fail
        rw [← hsg] at hc
        clear hs0 hsg hs1
        go_loopw [9] (fun k wr2 => ∃ kk : Nat, kk ≤ 4 ∧ rs.take kk = List.replicate kk true ∧ k = .int .i64 kk ∧ wr2.cell? ⟨w.heap.size, 0, none⟩ = some (.string (P.strB (rs.drop kk))) ∧ wr2.frozen? ⟨w.heap.size, 0, none⟩ = false ∧ OwnK 2 .i64 wr2 (w.heap.size + 1) (.slice (some ⟨g, 0, none⟩) acc.length c) acc ∧ Below w.heap.size w wr2 ∧ w.heap.size + 1 ≤ wr2.heap.size) (fun k _ => 5 - (intOf k).toNat)
        case atStart => exact ⟨0, by omega, rfl, rfl, hc, hf, hown, hb, hsz⟩
        case round =>
          clear hc hf hown hb hsz
          obtain ⟨kk, hkk, hX, rfl, hc, hf, hown, hb, hsz⟩ := hrel
          have hdl : (rs.drop kk).length ≤ 4000 := by rw [List.length_drop]; omega
          by_cases h4 : kk < 4
          · by_cases hbz : P.bit (rs.drop kk) 0 = 0
            · have HD0 := hdr_zero rs kk h4 hX hbz
              have HT1 : Hid (∀ (w' : World), w'.cell? ⟨w.heap.size, 0, none⟩ = some (.string (P.strB (rs.drop kk))) → w'.frozen? ⟨w.heap.size, 0, none⟩ = false → Calls Tryd.prog 51 #[.int .i64 1, .pointer (some ⟨w.heap.size, 0, none⟩)] w' fun e w2 => e = .returned (.string (⟨#[48]⟩)) ∧ w2.cell? ⟨w.heap.size, 0, none⟩ = some (.string (P.strB ((rs.drop kk).drop 1))) ∧ w2.frozen? ⟨w.heap.size, 0, none⟩ = false ∧ (∀ (base : Nat) (v : Value) (l : List Int), w.heap.size < base → OwnK 2 .i64 w' base v l → OwnK 2 .i64 w2 base v l) ∧ (∀ w0, Below w.heap.size w0 w' → Below w.heap.size w0 w2) ∧ w'.heap.size ≤ w2.heap.size) := fun w' hc hf => by
                have h := HTk.out 1 (rs.drop kk) w' (by decide) hdl hc hf
                rw [(tk1_zero _ hbz).1, (tk1_zero _ hbz).2] at h
                exact h
              have hRl : ((rs.drop kk).drop 1).length ≤ 4000 := by rw [List.length_drop]; omega
              generalize (rs.drop kk).drop 1 = R at *
              clear hX hbz hdl
              generalize P.strB (rs.drop kk) = sd at *
              go_wp2_with fail
              refine (HT1.out _ hc hf).mono ?_
              rintro e w6 ⟨rfl, hc6, hf6, ho6, hbl6, hsz6⟩
              have hown6 := ho6 _ _ _ (Nat.lt_succ_self _) hown
              have hb6 := hbl6 _ hb
              have hs6 := Nat.le_trans hsz hsz6
              clear ho6 hbl6 hsz6 hc hf hown hb hsz HT1
              have hk4 : kk = 0 ∨ kk = 1 ∨ kk = 2 ∨ kk = 3 := by omega
              have HD := hide HD0
              clear HD0 hkk h4
              rcases hk4 with rfl | rfl | rfl | rfl
              · have hcof : P.cOf 0 R = 0 := rfl
                have hRR : P.tkR R (P.wd 0) = R := by unfold P.tkR P.wd; simp
                have HN := hide (fun y hy => P.cnd_change hC hpos hlt1 0 R HD.out y hy)
                rw [hRR, hcof] at HN
                clear hcof hRR
                clear hC HD HTk
                generalize hsR : P.strB R = sR at *
                have HSR := hide hsR
                clear hsR
                have hown7 := hown6
                have hs7 := hs6
                have hcl := own_cells hown7
                by_cases h2 : 1 < acc.length
                · have hdd : decide (1 < (acc.length : Int)) = true := by rw [decide_eq_true_eq]; omega
                  have hst := stp_two acc h2
                  have hls := lst_at acc hpos
                  have HY := hide (And.intro hls hst)
                  clear hst hls
                  have hq1 := hcl (acc.length - 1) (by omega)
                  have hq2 := hcl (acc.length - 2) (by omega)
                  clear hcl
                  generalize acc.getD (acc.length - 1) 0 = t1 at *
                  generalize acc.getD (acc.length - 2) 0 = t2 at *
                  go_wp2_with fail
                  go_quiet (fail)
                  have hbX := Below.drewN hb6 nq
                  go_wp2_with (at_builtin; go_must (refine wp_app1K rfl _ _ 38 2 .i64 8 rfl Tryd.underlying38 Tryd.info2 (by decide) (w.heap.size + 1) (w.heap.size + 1) _ _ _ acc _ hown7 (Below.refl _ _) (Nat.le_refl _) rfl rfl (by omega) hs7 ?_); intro v' w9 hown' hb' hsz' hg'; obtain ⟨a', cap', hv'⟩ := hown'.shape; rw [hv'] at hown' ⊢; clear hv')
                  go_roundw
                  case rel =>
                    have e1 : ∀ y : Int, (acc ++ [y]).length = acc.length + 1 := fun y => by simp
                    refine ⟨_, a', cap', R, ?_, P.i64_snoc hi (P.wrap64_lo _) (P.wrap64_hi _), hRl, HN.out _ ?_, ?_, ?_, (hb'.cell (p := ⟨w.heap.size, 0, none⟩) (by simp)).trans (by rw [HSR.out]; exact hc6), (hb'.frozen (p := ⟨w.heap.size, 0, none⟩) (by simp)).trans hf6, hown', hbX.trans (hb'.mono (by omega)), Nat.le_trans hs7 (Nat.le_of_lt hsz')⟩
                    · rw [e1]; omega
                    · unfold P.nxt; rw [HY.out.1, HY.out.2]; unfold wrap64; omega
                    · rw [e1]
                    · rw [e1]; simp
                  case measure => simp [intOf]; omega
                · have hdd : decide (1 < (acc.length : Int)) = false := by rw [decide_eq_false_iff_not]; omega
                  have hst := stp_few acc (by omega)
                  have hls := lst_at acc hpos
                  have HY := hide (And.intro hls hst)
                  clear hst hls
                  have hq1 := hcl (acc.length - 1) (by omega)
                  clear hcl
                  generalize acc.getD (acc.length - 1) 0 = t1 at *
                  have hbX := hb6
                  go_wp2_with (at_builtin; go_must (refine wp_app1K rfl _ _ 38 2 .i64 8 rfl Tryd.underlying38 Tryd.info2 (by decide) (w.heap.size + 1) (w.heap.size + 1) _ _ _ acc _ hown7 (Below.refl _ _) (Nat.le_refl _) rfl rfl (by omega) hs7 ?_); intro v' w9 hown' hb' hsz' hg'; obtain ⟨a', cap', hv'⟩ := hown'.shape; rw [hv'] at hown' ⊢; clear hv')
                  go_roundw
                  case rel =>
                    have e1 : ∀ y : Int, (acc ++ [y]).length = acc.length + 1 := fun y => by simp
                    refine ⟨_, a', cap', R, ?_, P.i64_snoc hi (P.wrap64_lo _) (P.wrap64_hi _), hRl, HN.out _ ?_, ?_, ?_, (hb'.cell (p := ⟨w.heap.size, 0, none⟩) (by simp)).trans (by rw [HSR.out]; exact hc6), (hb'.frozen (p := ⟨w.heap.size, 0, none⟩) (by simp)).trans hf6, hown', hbX.trans (hb'.mono (by omega)), Nat.le_trans hs7 (Nat.le_of_lt hsz')⟩
                    · rw [e1]; omega
                    · unfold P.nxt; rw [HY.out.1, HY.out.2]; unfold wrap64; omega
                    · rw [e1]
                    · rw [e1]; simp
                  case measure => simp [intOf]; omega
              · have HTw : Hid (∀ (w' : World), w'.cell? ⟨w.heap.size, 0, none⟩ = some (.string (P.strB R)) → w'.frozen? ⟨w.heap.size, 0, none⟩ = false → Calls Tryd.prog 51 #[.int .i64 7, .pointer (some ⟨w.heap.size, 0, none⟩)] w' fun e w2 => e = .returned (.string (P.strB (P.tkX R 7))) ∧ w2.cell? ⟨w.heap.size, 0, none⟩ = some (.string (P.strB (P.tkR R 7))) ∧ w2.frozen? ⟨w.heap.size, 0, none⟩ = false ∧ (∀ (base : Nat) (v : Value) (l : List Int), w.heap.size < base → OwnK 2 .i64 w' base v l → OwnK 2 .i64 w2 base v l) ∧ (∀ w0, Below w.heap.size w0 w' → Below w.heap.size w0 w2) ∧ w'.heap.size ≤ w2.heap.size) := fun w' hc hf => HTk.out 7 R w' (by decide) hRl hc hf
                have HSg : Hid (∀ w : World, Calls Tryd.prog 52 #[.string (P.strB (P.tkX R 7))] w fun e w' => e = .returned (.int .i64 (P.cOf 1 R)) ∧ w' = w) := fun w => by
                  rw [cOf_pos 1 7 R (by decide) rfl]
                  exact refSigned_any (P.tkX R 7) w (P.tkX_pos R 7 (by decide)) (P.tkX_len R 7 (by decide))
                have HN := hide (fun y hy => P.cnd_change hC hpos hlt1 1 R HD.out y hy)
                have hRl2 := Nat.le_trans (P.tkR_len R 7) hRl
                rw [show P.wd 1 = 7 from rfl] at HN
                generalize P.cOf 1 R = cv at *
                generalize P.tkR R 7 = R2 at *
                generalize P.strB (P.tkX R 7) = sX at *
                clear hC HD HTk
                generalize hsR : P.strB R = sR at *
                have HSR := hide hsR
                clear hsR
                by_cases h2 : 1 < acc.length
                · have hdd : decide (1 < (acc.length : Int)) = true := by rw [decide_eq_true_eq]; omega
                  have hst := stp_two acc h2
                  have hls := lst_at acc hpos
                  have HY := hide (And.intro hls hst)
                  clear hst hls
                  go_wp2_with (first
                    | (go_at_call 51; go_must (refine (HTw.out _ (keep_alloc hc6 _) (frozen_alloc hc6 hf6 _)).mono ?_); rintro e w7 ⟨rfl, hc7, hf7, ho7, hbl7, hsz7⟩; have hown7 := ho7 _ _ _ (Nat.lt_succ_self _) (World.ownsRow.alloc hown6 _); have hb7 := hbl7 _ (below_alloc hb6 _); have hs7 : w.heap.size + 1 ≤ w7.heap.size := by { simp at hsz7; omega }; have hcl := own_cells hown7; clear ho7 hbl7 hsz7)
                    | (go_at_call 52; go_must (refine (HSg.out _).mono ?_); rintro e w8 ⟨rfl, rfl⟩))
                  have hq1 := hcl (acc.length - 1) (by omega)
                  have hq2 := hcl (acc.length - 2) (by omega)
                  clear hcl
                  generalize acc.getD (acc.length - 1) 0 = t1 at *
                  generalize acc.getD (acc.length - 2) 0 = t2 at *
                  go_quiet (fail)
                  have hbX := Below.drewN hb7 nq
                  go_wp2_with (at_builtin; go_must (refine wp_app1K rfl _ _ 38 2 .i64 8 rfl Tryd.underlying38 Tryd.info2 (by decide) (w.heap.size + 1) (w.heap.size + 1) _ _ _ acc _ hown7 (Below.refl _ _) (Nat.le_refl _) rfl rfl (by omega) hs7 ?_); intro v' w9 hown' hb' hsz' hg'; obtain ⟨a', cap', hv'⟩ := hown'.shape; rw [hv'] at hown' ⊢; clear hv')
                  go_roundw
                  case rel =>
                    have e1 : ∀ y : Int, (acc ++ [y]).length = acc.length + 1 := fun y => by simp
                    refine ⟨_, a', cap', R2, ?_, P.i64_snoc hi (P.wrap64_lo _) (P.wrap64_hi _), hRl2, HN.out _ ?_, ?_, ?_, (hb'.cell (p := ⟨w.heap.size, 0, none⟩) (by simp)).trans hc7, (hb'.frozen (p := ⟨w.heap.size, 0, none⟩) (by simp)).trans hf7, hown', hbX.trans (hb'.mono (by omega)), Nat.le_trans hs7 (Nat.le_of_lt hsz')⟩
                    · rw [e1]; omega
                    · unfold P.nxt; rw [HY.out.1, HY.out.2]; unfold wrap64; omega
                    · rw [e1]
                    · rw [e1]; simp
                  case measure => simp [intOf]; omega
                · have hdd : decide (1 < (acc.length : Int)) = false := by rw [decide_eq_false_iff_not]; omega
                  have hst := stp_few acc (by omega)
                  have hls := lst_at acc hpos
                  have HY := hide (And.intro hls hst)
                  clear hst hls
                  go_wp2_with (first
                    | (go_at_call 51; go_must (refine (HTw.out _ (keep_alloc hc6 _) (frozen_alloc hc6 hf6 _)).mono ?_); rintro e w7 ⟨rfl, hc7, hf7, ho7, hbl7, hsz7⟩; have hown7 := ho7 _ _ _ (Nat.lt_succ_self _) (World.ownsRow.alloc hown6 _); have hb7 := hbl7 _ (below_alloc hb6 _); have hs7 : w.heap.size + 1 ≤ w7.heap.size := by { simp at hsz7; omega }; have hcl := own_cells hown7; have hq1 := hcl (acc.length - 1) (by omega); clear hcl; generalize acc.getD (acc.length - 1) 0 = t1 at *; have hbX := hb7; clear ho7 hbl7 hsz7)
                    | (go_at_call 52; go_must (refine (HSg.out _).mono ?_); rintro e w8 ⟨rfl, rfl⟩)
                    | (at_builtin; go_must (refine wp_app1K rfl _ _ 38 2 .i64 8 rfl Tryd.underlying38 Tryd.info2 (by decide) (w.heap.size + 1) (w.heap.size + 1) _ _ _ acc _ hown7 (Below.refl _ _) (Nat.le_refl _) rfl rfl (by omega) hs7 ?_); intro v' w9 hown' hb' hsz' hg'; obtain ⟨a', cap', hv'⟩ := hown'.shape; rw [hv'] at hown' ⊢; clear hv'))
                  go_roundw
                  case rel =>
                    have e1 : ∀ y : Int, (acc ++ [y]).length = acc.length + 1 := fun y => by simp
                    refine ⟨_, a', cap', R2, ?_, P.i64_snoc hi (P.wrap64_lo _) (P.wrap64_hi _), hRl2, HN.out _ ?_, ?_, ?_, (hb'.cell (p := ⟨w.heap.size, 0, none⟩) (by simp)).trans hc7, (hb'.frozen (p := ⟨w.heap.size, 0, none⟩) (by simp)).trans hf7, hown', hbX.trans (hb'.mono (by omega)), Nat.le_trans hs7 (Nat.le_of_lt hsz')⟩
                    · rw [e1]; omega
                    · unfold P.nxt; rw [HY.out.1, HY.out.2]; unfold wrap64; omega
                    · rw [e1]
                    · rw [e1]; simp
                  case measure => simp [intOf]; omega
              · have HTw : Hid (∀ (w' : World), w'.cell? ⟨w.heap.size, 0, none⟩ = some (.string (P.strB R)) → w'.frozen? ⟨w.heap.size, 0, none⟩ = false → Calls Tryd.prog 51 #[.int .i64 9, .pointer (some ⟨w.heap.size, 0, none⟩)] w' fun e w2 => e = .returned (.string (P.strB (P.tkX R 9))) ∧ w2.cell? ⟨w.heap.size, 0, none⟩ = some (.string (P.strB (P.tkR R 9))) ∧ w2.frozen? ⟨w.heap.size, 0, none⟩ = false ∧ (∀ (base : Nat) (v : Value) (l : List Int), w.heap.size < base → OwnK 2 .i64 w' base v l → OwnK 2 .i64 w2 base v l) ∧ (∀ w0, Below w.heap.size w0 w' → Below w.heap.size w0 w2) ∧ w'.heap.size ≤ w2.heap.size) := fun w' hc hf => HTk.out 9 R w' (by decide) hRl hc hf
                have HSg : Hid (∀ w : World, Calls Tryd.prog 52 #[.string (P.strB (P.tkX R 9))] w fun e w' => e = .returned (.int .i64 (P.cOf 2 R)) ∧ w' = w) := fun w => by
                  rw [cOf_pos 2 9 R (by decide) rfl]
                  exact refSigned_any (P.tkX R 9) w (P.tkX_pos R 9 (by decide)) (P.tkX_len R 9 (by decide))
                have HN := hide (fun y hy => P.cnd_change hC hpos hlt1 2 R HD.out y hy)
                have hRl2 := Nat.le_trans (P.tkR_len R 9) hRl
                rw [show P.wd 2 = 9 from rfl] at HN
                generalize P.cOf 2 R = cv at *
                generalize P.tkR R 9 = R2 at *
                generalize P.strB (P.tkX R 9) = sX at *
                clear hC HD HTk
                generalize hsR : P.strB R = sR at *
                have HSR := hide hsR
                clear hsR
                by_cases h2 : 1 < acc.length
                · have hdd : decide (1 < (acc.length : Int)) = true := by rw [decide_eq_true_eq]; omega
                  have hst := stp_two acc h2
                  have hls := lst_at acc hpos
                  have HY := hide (And.intro hls hst)
                  clear hst hls
                  go_wp2_with (first
                    | (go_at_call 51; go_must (refine (HTw.out _ (keep_alloc hc6 _) (frozen_alloc hc6 hf6 _)).mono ?_); rintro e w7 ⟨rfl, hc7, hf7, ho7, hbl7, hsz7⟩; have hown7 := ho7 _ _ _ (Nat.lt_succ_self _) (World.ownsRow.alloc hown6 _); have hb7 := hbl7 _ (below_alloc hb6 _); have hs7 : w.heap.size + 1 ≤ w7.heap.size := by { simp at hsz7; omega }; have hcl := own_cells hown7; clear ho7 hbl7 hsz7)
                    | (go_at_call 52; go_must (refine (HSg.out _).mono ?_); rintro e w8 ⟨rfl, rfl⟩))
                  have hq1 := hcl (acc.length - 1) (by omega)
                  have hq2 := hcl (acc.length - 2) (by omega)
                  clear hcl
                  generalize acc.getD (acc.length - 1) 0 = t1 at *
                  generalize acc.getD (acc.length - 2) 0 = t2 at *
                  go_quiet (fail)
                  have hbX := Below.drewN hb7 nq
                  go_wp2_with (at_builtin; go_must (refine wp_app1K rfl _ _ 38 2 .i64 8 rfl Tryd.underlying38 Tryd.info2 (by decide) (w.heap.size + 1) (w.heap.size + 1) _ _ _ acc _ hown7 (Below.refl _ _) (Nat.le_refl _) rfl rfl (by omega) hs7 ?_); intro v' w9 hown' hb' hsz' hg'; obtain ⟨a', cap', hv'⟩ := hown'.shape; rw [hv'] at hown' ⊢; clear hv')
                  go_roundw
                  case rel =>
                    have e1 : ∀ y : Int, (acc ++ [y]).length = acc.length + 1 := fun y => by simp
                    refine ⟨_, a', cap', R2, ?_, P.i64_snoc hi (P.wrap64_lo _) (P.wrap64_hi _), hRl2, HN.out _ ?_, ?_, ?_, (hb'.cell (p := ⟨w.heap.size, 0, none⟩) (by simp)).trans hc7, (hb'.frozen (p := ⟨w.heap.size, 0, none⟩) (by simp)).trans hf7, hown', hbX.trans (hb'.mono (by omega)), Nat.le_trans hs7 (Nat.le_of_lt hsz')⟩
                    · rw [e1]; omega
                    · unfold P.nxt; rw [HY.out.1, HY.out.2]; unfold wrap64; omega
                    · rw [e1]
                    · rw [e1]; simp
                  case measure => simp [intOf]; omega
                · have hdd : decide (1 < (acc.length : Int)) = false := by rw [decide_eq_false_iff_not]; omega
                  have hst := stp_few acc (by omega)
                  have hls := lst_at acc hpos
                  have HY := hide (And.intro hls hst)
                  clear hst hls
                  go_wp2_with (first
                    | (go_at_call 51; go_must (refine (HTw.out _ (keep_alloc hc6 _) (frozen_alloc hc6 hf6 _)).mono ?_); rintro e w7 ⟨rfl, hc7, hf7, ho7, hbl7, hsz7⟩; have hown7 := ho7 _ _ _ (Nat.lt_succ_self _) (World.ownsRow.alloc hown6 _); have hb7 := hbl7 _ (below_alloc hb6 _); have hs7 : w.heap.size + 1 ≤ w7.heap.size := by { simp at hsz7; omega }; have hcl := own_cells hown7; have hq1 := hcl (acc.length - 1) (by omega); clear hcl; generalize acc.getD (acc.length - 1) 0 = t1 at *; have hbX := hb7; clear ho7 hbl7 hsz7)
                    | (go_at_call 52; go_must (refine (HSg.out _).mono ?_); rintro e w8 ⟨rfl, rfl⟩)
                    | (at_builtin; go_must (refine wp_app1K rfl _ _ 38 2 .i64 8 rfl Tryd.underlying38 Tryd.info2 (by decide) (w.heap.size + 1) (w.heap.size + 1) _ _ _ acc _ hown7 (Below.refl _ _) (Nat.le_refl _) rfl rfl (by omega) hs7 ?_); intro v' w9 hown' hb' hsz' hg'; obtain ⟨a', cap', hv'⟩ := hown'.shape; rw [hv'] at hown' ⊢; clear hv'))
                  go_roundw
                  case rel =>
                    have e1 : ∀ y : Int, (acc ++ [y]).length = acc.length + 1 := fun y => by simp
                    refine ⟨_, a', cap', R2, ?_, P.i64_snoc hi (P.wrap64_lo _) (P.wrap64_hi _), hRl2, HN.out _ ?_, ?_, ?_, (hb'.cell (p := ⟨w.heap.size, 0, none⟩) (by simp)).trans hc7, (hb'.frozen (p := ⟨w.heap.size, 0, none⟩) (by simp)).trans hf7, hown', hbX.trans (hb'.mono (by omega)), Nat.le_trans hs7 (Nat.le_of_lt hsz')⟩
                    · rw [e1]; omega
                    · unfold P.nxt; rw [HY.out.1, HY.out.2]; unfold wrap64; omega
                    · rw [e1]
                    · rw [e1]; simp
                  case measure => simp [intOf]; omega
              · have HTw : Hid (∀ (w' : World), w'.cell? ⟨w.heap.size, 0, none⟩ = some (.string (P.strB R)) → w'.frozen? ⟨w.heap.size, 0, none⟩ = false → Calls Tryd.prog 51 #[.int .i64 12, .pointer (some ⟨w.heap.size, 0, none⟩)] w' fun e w2 => e = .returned (.string (P.strB (P.tkX R 12))) ∧ w2.cell? ⟨w.heap.size, 0, none⟩ = some (.string (P.strB (P.tkR R 12))) ∧ w2.frozen? ⟨w.heap.size, 0, none⟩ = false ∧ (∀ (base : Nat) (v : Value) (l : List Int), w.heap.size < base → OwnK 2 .i64 w' base v l → OwnK 2 .i64 w2 base v l) ∧ (∀ w0, Below w.heap.size w0 w' → Below w.heap.size w0 w2) ∧ w'.heap.size ≤ w2.heap.size) := fun w' hc hf => HTk.out 12 R w' (by decide) hRl hc hf
                have HSg : Hid (∀ w : World, Calls Tryd.prog 52 #[.string (P.strB (P.tkX R 12))] w fun e w' => e = .returned (.int .i64 (P.cOf 3 R)) ∧ w' = w) := fun w => by
                  rw [cOf_pos 3 12 R (by decide) rfl]
                  exact refSigned_any (P.tkX R 12) w (P.tkX_pos R 12 (by decide)) (P.tkX_len R 12 (by decide))
                have HN := hide (fun y hy => P.cnd_change hC hpos hlt1 3 R HD.out y hy)
                have hRl2 := Nat.le_trans (P.tkR_len R 12) hRl
                rw [show P.wd 3 = 12 from rfl] at HN
                generalize P.cOf 3 R = cv at *
                generalize P.tkR R 12 = R2 at *
                generalize P.strB (P.tkX R 12) = sX at *
                clear hC HD HTk
                generalize hsR : P.strB R = sR at *
                have HSR := hide hsR
                clear hsR
                by_cases h2 : 1 < acc.length
                · have hdd : decide (1 < (acc.length : Int)) = true := by rw [decide_eq_true_eq]; omega
                  have hst := stp_two acc h2
                  have hls := lst_at acc hpos
                  have HY := hide (And.intro hls hst)
                  clear hst hls
                  go_wp2_with (first
                    | (go_at_call 51; go_must (refine (HTw.out _ (keep_alloc hc6 _) (frozen_alloc hc6 hf6 _)).mono ?_); rintro e w7 ⟨rfl, hc7, hf7, ho7, hbl7, hsz7⟩; have hown7 := ho7 _ _ _ (Nat.lt_succ_self _) (World.ownsRow.alloc hown6 _); have hb7 := hbl7 _ (below_alloc hb6 _); have hs7 : w.heap.size + 1 ≤ w7.heap.size := by { simp at hsz7; omega }; have hcl := own_cells hown7; clear ho7 hbl7 hsz7)
                    | (go_at_call 52; go_must (refine (HSg.out _).mono ?_); rintro e w8 ⟨rfl, rfl⟩))
                  have hq1 := hcl (acc.length - 1) (by omega)
                  have hq2 := hcl (acc.length - 2) (by omega)
                  clear hcl
                  generalize acc.getD (acc.length - 1) 0 = t1 at *
                  generalize acc.getD (acc.length - 2) 0 = t2 at *
                  go_quiet (fail)
                  have hbX := Below.drewN hb7 nq
                  go_wp2_with (at_builtin; go_must (refine wp_app1K rfl _ _ 38 2 .i64 8 rfl Tryd.underlying38 Tryd.info2 (by decide) (w.heap.size + 1) (w.heap.size + 1) _ _ _ acc _ hown7 (Below.refl _ _) (Nat.le_refl _) rfl rfl (by omega) hs7 ?_); intro v' w9 hown' hb' hsz' hg'; obtain ⟨a', cap', hv'⟩ := hown'.shape; rw [hv'] at hown' ⊢; clear hv')
                  go_roundw
                  case rel =>
                    have e1 : ∀ y : Int, (acc ++ [y]).length = acc.length + 1 := fun y => by simp
                    refine ⟨_, a', cap', R2, ?_, P.i64_snoc hi (P.wrap64_lo _) (P.wrap64_hi _), hRl2, HN.out _ ?_, ?_, ?_, (hb'.cell (p := ⟨w.heap.size, 0, none⟩) (by simp)).trans hc7, (hb'.frozen (p := ⟨w.heap.size, 0, none⟩) (by simp)).trans hf7, hown', hbX.trans (hb'.mono (by omega)), Nat.le_trans hs7 (Nat.le_of_lt hsz')⟩
                    · rw [e1]; omega
                    · unfold P.nxt; rw [HY.out.1, HY.out.2]; unfold wrap64; omega
                    · rw [e1]
                    · rw [e1]; simp
                  case measure => simp [intOf]; omega
                · have hdd : decide (1 < (acc.length : Int)) = false := by rw [decide_eq_false_iff_not]; omega
                  have hst := stp_few acc (by omega)
                  have hls := lst_at acc hpos
                  have HY := hide (And.intro hls hst)
                  clear hst hls
                  go_wp2_with (first
                    | (go_at_call 51; go_must (refine (HTw.out _ (keep_alloc hc6 _) (frozen_alloc hc6 hf6 _)).mono ?_); rintro e w7 ⟨rfl, hc7, hf7, ho7, hbl7, hsz7⟩; have hown7 := ho7 _ _ _ (Nat.lt_succ_self _) (World.ownsRow.alloc hown6 _); have hb7 := hbl7 _ (below_alloc hb6 _); have hs7 : w.heap.size + 1 ≤ w7.heap.size := by { simp at hsz7; omega }; have hcl := own_cells hown7; have hq1 := hcl (acc.length - 1) (by omega); clear hcl; generalize acc.getD (acc.length - 1) 0 = t1 at *; have hbX := hb7; clear ho7 hbl7 hsz7)
                    | (go_at_call 52; go_must (refine (HSg.out _).mono ?_); rintro e w8 ⟨rfl, rfl⟩)
                    | (at_builtin; go_must (refine wp_app1K rfl _ _ 38 2 .i64 8 rfl Tryd.underlying38 Tryd.info2 (by decide) (w.heap.size + 1) (w.heap.size + 1) _ _ _ acc _ hown7 (Below.refl _ _) (Nat.le_refl _) rfl rfl (by omega) hs7 ?_); intro v' w9 hown' hb' hsz' hg'; obtain ⟨a', cap', hv'⟩ := hown'.shape; rw [hv'] at hown' ⊢; clear hv'))
                  go_roundw
                  case rel =>
                    have e1 : ∀ y : Int, (acc ++ [y]).length = acc.length + 1 := fun y => by simp
                    refine ⟨_, a', cap', R2, ?_, P.i64_snoc hi (P.wrap64_lo _) (P.wrap64_hi _), hRl2, HN.out _ ?_, ?_, ?_, (hb'.cell (p := ⟨w.heap.size, 0, none⟩) (by simp)).trans hc7, (hb'.frozen (p := ⟨w.heap.size, 0, none⟩) (by simp)).trans hf7, hown', hbX.trans (hb'.mono (by omega)), Nat.le_trans hs7 (Nat.le_of_lt hsz')⟩
                    · rw [e1]; omega
                    · unfold P.nxt; rw [HY.out.1, HY.out.2]; unfold wrap64; omega
                    · rw [e1]
                    · rw [e1]; simp
                  case measure => simp [intOf]; omega
            · obtain ⟨hX2, r, hr1, hr2⟩ := ones_step rs kk hX hbz
              have HT1 : Hid (∀ (w' : World), w'.cell? ⟨w.heap.size, 0, none⟩ = some (.string (P.strB (rs.drop kk))) → w'.frozen? ⟨w.heap.size, 0, none⟩ = false → Calls Tryd.prog 51 #[.int .i64 1, .pointer (some ⟨w.heap.size, 0, none⟩)] w' fun e w2 => e = .returned (.string (⟨#[49]⟩)) ∧ w2.cell? ⟨w.heap.size, 0, none⟩ = some (.string (P.strB (r))) ∧ w2.frozen? ⟨w.heap.size, 0, none⟩ = false ∧ (∀ (base : Nat) (v : Value) (l : List Int), w.heap.size < base → OwnK 2 .i64 w' base v l → OwnK 2 .i64 w2 base v l) ∧ (∀ w0, Below w.heap.size w0 w' → Below w.heap.size w0 w2) ∧ w'.heap.size ≤ w2.heap.size) := fun w' hc hf => by
                have h := HTk.out 1 (rs.drop kk) w' (by decide) hdl hc hf
                rw [hr1] at h
                rw [(tk1_one r).1, (tk1_one r).2] at h
                exact h
              have HX2 := hide hX2
              have HR2 := hide hr2
              clear hX2 hX hbz hr1 hr2 hC hi HTk
              generalize P.strB (rs.drop kk) = sd at *
              go_wp2_with (go_at_call 51; go_must (refine (HT1.out _ hc hf).mono ?_); rintro e w6 ⟨rfl, hc6, hf6, ho6, hbl6, hsz6⟩)
              go_roundw
              case rel => exact ⟨kk + 1, by omega, HX2.out, by go_num, by rw [← HR2.out]; exact hc6, hf6, ho6 _ _ _ (Nat.lt_succ_self _) hown, hbl6 _ hb, by omega⟩
              case measure => simp [intOf]; omega
          · obtain rfl : kk = 4 := by omega
            have HD := hide (hdr_four rs hX)
            have hRl := hdl
            generalize rs.drop 4 = R at *
            clear hX hdl hkk h4
            have hc6 := hc
            have hf6 := hf
            have hown6 := hown
            have hb6 := hb
            have hs6 := hsz
            clear hc hf hown hb hsz
            have HTw : Hid (∀ (w' : World), w'.cell? ⟨w.heap.size, 0, none⟩ = some (.string (P.strB R)) → w'.frozen? ⟨w.heap.size, 0, none⟩ = false → Calls Tryd.prog 51 #[.int .i64 64, .pointer (some ⟨w.heap.size, 0, none⟩)] w' fun e w2 => e = .returned (.string (P.strB (P.tkX R 64))) ∧ w2.cell? ⟨w.heap.size, 0, none⟩ = some (.string (P.strB (P.tkR R 64))) ∧ w2.frozen? ⟨w.heap.size, 0, none⟩ = false ∧ (∀ (base : Nat) (v : Value) (l : List Int), w.heap.size < base → OwnK 2 .i64 w' base v l → OwnK 2 .i64 w2 base v l) ∧ (∀ w0, Below w.heap.size w0 w' → Below w.heap.size w0 w2) ∧ w'.heap.size ≤ w2.heap.size) := fun w' hc hf => HTk.out 64 R w' (by decide) hRl hc hf
            have HSg : Hid (∀ w : World, Calls Tryd.prog 52 #[.string (P.strB (P.tkX R 64))] w fun e w' => e = .returned (.int .i64 (P.cOf 4 R)) ∧ w' = w) := fun w => by
              rw [cOf_pos 4 64 R (by decide) rfl]
              exact refSigned_any (P.tkX R 64) w (P.tkX_pos R 64 (by decide)) (P.tkX_len R 64 (by decide))
            have HN := hide (fun y hy => P.cnd_change hC hpos hlt1 4 R HD.out y hy)
            have hRl2 := Nat.le_trans (P.tkR_len R 64) hRl
            rw [show P.wd 4 = 64 from rfl] at HN
            generalize P.cOf 4 R = cv at *
            generalize P.tkR R 64 = R2 at *
            generalize P.strB (P.tkX R 64) = sX at *
            clear hC HD HTk
            generalize hsR : P.strB R = sR at *
            have HSR := hide hsR
            clear hsR
            by_cases h2 : 1 < acc.length
            · have hdd : decide (1 < (acc.length : Int)) = true := by rw [decide_eq_true_eq]; omega
              have hst := stp_two acc h2
              have hls := lst_at acc hpos
              have HY := hide (And.intro hls hst)
              clear hst hls
              go_wp2_with (first
                | (go_at_call 51; go_must (refine (HTw.out _ (keep_alloc hc6 _) (frozen_alloc hc6 hf6 _)).mono ?_); rintro e w7 ⟨rfl, hc7, hf7, ho7, hbl7, hsz7⟩; have hown7 := ho7 _ _ _ (Nat.lt_succ_self _) (World.ownsRow.alloc hown6 _); have hb7 := hbl7 _ (below_alloc hb6 _); have hs7 : w.heap.size + 1 ≤ w7.heap.size := by { simp at hsz7; omega }; have hcl := own_cells hown7; clear ho7 hbl7 hsz7)
                | (go_at_call 52; go_must (refine (HSg.out _).mono ?_); rintro e w8 ⟨rfl, rfl⟩))
              have hq1 := hcl (acc.length - 1) (by omega)
              have hq2 := hcl (acc.length - 2) (by omega)
              clear hcl
              generalize acc.getD (acc.length - 1) 0 = t1 at *
              generalize acc.getD (acc.length - 2) 0 = t2 at *
              go_quiet (fail)
              have hbX := Below.drewN hb7 nq
              go_wp2_with (at_builtin; go_must (refine wp_app1K rfl _ _ 38 2 .i64 8 rfl Tryd.underlying38 Tryd.info2 (by decide) (w.heap.size + 1) (w.heap.size + 1) _ _ _ acc _ hown7 (Below.refl _ _) (Nat.le_refl _) rfl rfl (by omega) hs7 ?_); intro v' w9 hown' hb' hsz' hg'; obtain ⟨a', cap', hv'⟩ := hown'.shape; rw [hv'] at hown' ⊢; clear hv')
              go_roundw
              case rel =>
                have e1 : ∀ y : Int, (acc ++ [y]).length = acc.length + 1 := fun y => by simp
                refine ⟨_, a', cap', R2, ?_, P.i64_snoc hi (P.wrap64_lo _) (P.wrap64_hi _), hRl2, HN.out _ ?_, ?_, ?_, (hb'.cell (p := ⟨w.heap.size, 0, none⟩) (by simp)).trans hc7, (hb'.frozen (p := ⟨w.heap.size, 0, none⟩) (by simp)).trans hf7, hown', hbX.trans (hb'.mono (by omega)), Nat.le_trans hs7 (Nat.le_of_lt hsz')⟩
                · rw [e1]; omega
                · unfold P.nxt; rw [HY.out.1, HY.out.2]; unfold wrap64; omega
                · rw [e1]
                · rw [e1]; simp
              case measure => simp [intOf]; omega
            · have hdd : decide (1 < (acc.length : Int)) = false := by rw [decide_eq_false_iff_not]; omega
              have hst := stp_few acc (by omega)
              have hls := lst_at acc hpos
              have HY := hide (And.intro hls hst)
              clear hst hls
              go_wp2_with (first
                | (go_at_call 51; go_must (refine (HTw.out _ (keep_alloc hc6 _) (frozen_alloc hc6 hf6 _)).mono ?_); rintro e w7 ⟨rfl, hc7, hf7, ho7, hbl7, hsz7⟩; have hown7 := ho7 _ _ _ (Nat.lt_succ_self _) (World.ownsRow.alloc hown6 _); have hb7 := hbl7 _ (below_alloc hb6 _); have hs7 : w.heap.size + 1 ≤ w7.heap.size := by { simp at hsz7; omega }; have hcl := own_cells hown7; have hq1 := hcl (acc.length - 1) (by omega); clear hcl; generalize acc.getD (acc.length - 1) 0 = t1 at *; have hbX := hb7; clear ho7 hbl7 hsz7)
                | (go_at_call 52; go_must (refine (HSg.out _).mono ?_); rintro e w8 ⟨rfl, rfl⟩)
                | (at_builtin; go_must (refine wp_app1K rfl _ _ 38 2 .i64 8 rfl Tryd.underlying38 Tryd.info2 (by decide) (w.heap.size + 1) (w.heap.size + 1) _ _ _ acc _ hown7 (Below.refl _ _) (Nat.le_refl _) rfl rfl (by omega) hs7 ?_); intro v' w9 hown' hb' hsz' hg'; obtain ⟨a', cap', hv'⟩ := hown'.shape; rw [hv'] at hown' ⊢; clear hv'))
              go_roundw
              case rel =>
                have e1 : ∀ y : Int, (acc ++ [y]).length = acc.length + 1 := fun y => by simp
                refine ⟨_, a', cap', R2, ?_, P.i64_snoc hi (P.wrap64_lo _) (P.wrap64_hi _), hRl2, HN.out _ ?_, ?_, ?_, (hb'.cell (p := ⟨w.heap.size, 0, none⟩) (by simp)).trans hc7, (hb'.frozen (p := ⟨w.heap.size, 0, none⟩) (by simp)).trans hf7, hown', hbX.trans (hb'.mono (by omega)), Nat.le_trans hs7 (Nat.le_of_lt hsz')⟩
                · rw [e1]; omega
                · unfold P.nxt; rw [HY.out.1, HY.out.2]; unfold wrap64; omega
                · rw [e1]
                · rw [e1]; simp
              case measure => simp [intOf]; omega
    · have HE := hide (P.cnd_end hC hacc (by
        rcases Nat.lt_or_ge acc.length many with h | h
        · exact .inr (List.length_eq_zero_iff.1 (by omega))
        · exact .inl h))
      have hown2 := hown.base (show w.heap.size ≤ w.heap.size + 1 by omega)
      by_cases hA : many ≤ acc.length
      · have hd : decide ((acc.length : Int) < (many : Int)) = false := by simp; omega
        clear hlt
        by_cases hbig : acc.length ≤ 1000
        · have HTS := hide (fun (v : Value) (w : World) (hr : RowK .i64 w v acc) => timeSigns_any v acc w hr hi hbig)
          have hdb : decide ((acc.length : Int) ≤ 1000) = true := by simp; omega
          by_cases he : P.packT acc = bs
          · have HX : Hid (Isx bs acc) := ⟨hbig, hi, he.symm⟩
            rw [he] at HTS
            clear he hC hi
            generalize P.strB rs = s at *
            generalize P.strB bs = sb at *
            go_wp2_with (go_at_call 22; go_must (refine (HTS.out _ _ hown.row).mono ?_); rintro e w4 ⟨rfl, hb4⟩)
            go_ret2
            exact ⟨Below.next hb hb4, acc, a, c, true, OwnK.below hown2 hb4 (Nat.le_refl _), rfl, fun _ => HX.out, fun m hm => ⟨HE.out m hm, rfl⟩⟩
          · have HX : Hid (∀ m, ¬ Isx bs m) := fun m hm => he (by rw [HE.out m hm]; exact hm.2.2.symm)
            have hq := str_ne _ _ he
            clear he hC hi
            generalize P.strB rs = s at *
            generalize P.strB bs = sb at *
            generalize P.strB (P.packT acc) = sa at *
            go_wp2_with (go_at_call 22; go_must (refine (HTS.out _ _ hown.row).mono ?_); rintro e w4 ⟨rfl, hb4⟩)
            go_ret2
            exact ⟨Below.next hb hb4, acc, a, c, false, OwnK.below hown2 hb4 (Nat.le_refl _), rfl, (fun h => by cases h), fun m hm => absurd hm (HX.out m)⟩
        · have hdb : decide ((acc.length : Int) ≤ 1000) = false := by simp; omega
          have HX : Hid (∀ m, ¬ Isx bs m) := fun m hm => hbig (by rw [HE.out m hm]; exact hm.1)
          clear hC hi hbig
          generalize P.strB rs = s at *
          generalize P.strB bs = sb at *
          go_wp2
          go_ret2
          exact ⟨hb, acc, a, c, false, hown2, rfl, (fun h => by cases h), fun m hm => absurd hm (HX.out m)⟩
      · have hd : decide ((acc.length : Int) < (many : Int)) = true := by simp; omega
        have hA2 : acc.length < many := by omega
        have hs0 : (P.strB rs).size ≤ 0 := by rw [hrsz]; omega
        have hd2 : decide (0 < ((P.strB rs).size : Int)) = false := by rw [decide_eq_false_iff_not]; omega
        clear hlt hA hrsz
        by_cases hbig : acc.length ≤ 1000
        · have HTS := hide (fun (v : Value) (w : World) (hr : RowK .i64 w v acc) => timeSigns_any v acc w hr hi hbig)
          have hdb : decide ((acc.length : Int) ≤ 1000) = true := by simp; omega
          by_cases he : P.packT acc = bs
          · have HX : Hid (Isx bs acc) := ⟨hbig, hi, he.symm⟩
            rw [he] at HTS
            clear he hC hi
            generalize P.strB rs = s at *
            generalize P.strB bs = sb at *
            go_wp2_with (go_at_call 22; go_must (refine (HTS.out _ _ hown.row).mono ?_); rintro e w4 ⟨rfl, hb4⟩)
            go_ret2
            exact ⟨Below.next hb hb4, acc, a, c, true, OwnK.below hown2 hb4 (Nat.le_refl _), rfl, fun _ => HX.out, fun m hm => ⟨HE.out m hm, rfl⟩⟩
          · have HX : Hid (∀ m, ¬ Isx bs m) := fun m hm => he (by rw [HE.out m hm]; exact hm.2.2.symm)
            have hq := str_ne _ _ he
            clear he hC hi
            generalize P.strB rs = s at *
            generalize P.strB bs = sb at *
            generalize P.strB (P.packT acc) = sa at *
            go_wp2_with (go_at_call 22; go_must (refine (HTS.out _ _ hown.row).mono ?_); rintro e w4 ⟨rfl, hb4⟩)
            go_ret2
            exact ⟨Below.next hb hb4, acc, a, c, false, OwnK.below hown2 hb4 (Nat.le_refl _), rfl, (fun h => by cases h), fun m hm => absurd hm (HX.out m)⟩
        · have hdb : decide ((acc.length : Int) ≤ 1000) = false := by simp; omega
          have HX : Hid (∀ m, ¬ Isx bs m) := fun m hm => hbig (by rw [HE.out m hm]; exact hm.1)
          clear hC hi hbig
          generalize P.strB rs = s at *
          generalize P.strB bs = sb at *
          go_wp2
          go_ret2
          exact ⟨hb, acc, a, c, false, hown2, rfl, (fun h => by cases h), fun m hm => absurd hm (HX.out m)⟩
end D
end Go.Proofs.YtfjbdgkdkbcnhaaDoor
