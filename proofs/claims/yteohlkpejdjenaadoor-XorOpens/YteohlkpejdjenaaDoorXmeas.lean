/- What xor.reader's measures and xor.Unpack answer. -/
import Derived.Test.YteohlkpejdjenaaDoorXorR
namespace Go.Proofs.YteohlkpejdjenaaDoor
open Go.RowKit
set_option linter.unusedVariables false
set_option linter.unusedSimpArgs false

theorem u64_nxt {acc : List Int} (h : P.U64 acc) (t : Nat) (ht : t < 18446744073709551616) : bits BinOp.xor IntKind.u64 (P.lst acc acc.length) (t : Int) = P.nxt acc t := by
  have hl := P.lst_lt h
  have := u64_xor (P.lst acc acc.length) (t : Int) hl.1 (by omega) (by omega) (by omega)
  rw [Int.toNat_natCast] at this
  exact this

theorem Rd.belowB {w0 w w' : World} {g B : Nat} {v : Value} {bs : List Bool} {q : Nat} {br : Bool} (h : Rd w0 w g v bs q br) (hb : Below B w w') (hB : g < B) : Rd w0 w' g v bs q br :=
  ⟨h.old.trans (hb.mono (by have := h.hg; omega)), h.hg, (hb.cell (p := ⟨g, 0, none⟩) hB).trans h.x0, (hb.cell (p := ⟨g, 1, none⟩) hB).trans h.x1, (hb.cell (p := ⟨g, 2, none⟩) hB).trans h.x2, (hb.cell (p := ⟨g, 3, none⟩) hB).trans h.x3, (hb.frozen (p := ⟨g, 2, none⟩) hB).trans h.f2, (hb.frozen (p := ⟨g, 3, none⟩) hB).trans h.f3⟩
theorem B2.belowB {w w' : World} {b B : Nat} {c0 c1 : Value} (h : B2 w b c0 c1) (hb : Below B w w') (hB : b < B) : B2 w' b c0 c1 :=
  ⟨(hb.cell (p := ⟨b, 0, none⟩) hB).trans h.x0, (hb.cell (p := ⟨b, 1, none⟩) hB).trans h.x1, (hb.frozen (p := ⟨b, 0, none⟩) hB).trans h.f0, (hb.frozen (p := ⟨b, 1, none⟩) hB).trans h.f1⟩
theorem But.belowB {g B : Nat} {w w1 w2 : World} (h : But g w w1) (hb : Below B w1 w2) (hB : w.heap.size ≤ B) : But g w w2 :=
  ⟨hb.os.trans h.os, hb.tape.trans h.tape, hb.output.trans h.output, Nat.le_trans h.size hb.size, fun k hk hg => (hb.block k (by omega)).trans (h.block k hk hg)⟩
theorem OwnK.set2 {t : TypeId} {k : IntKind} {W : World} {g base : Nat} {v : Value} {l : List Int} (h : OwnK t k W base v l) (hg : g < base) (d0 d1 : Value) : OwnK t k ((W.setCell ⟨g, 0, none⟩ d0).setCell ⟨g, 1, none⟩ d1) base v l := ownsRow_setCell_below (ownsRow_setCell_below h hg _) hg _

set_option maxHeartbeats 4000000 in
/-- The loop, whatever the first pull answers. -/
theorem measures_gen (v : Value) (bs : List Bool) (n q1 g : Nat) (br1 : Bool) (w0 w : World) (hr : RowB w0 v (P.pack bs)) (n1 : (bs.length : Int) ≤ 9223372036854775000) (ht : Tab w0) (h : Rd w0 w g v bs 0 false) (hle : n ≤ 1000) (hn : br1 = false → P.val (bs.take 16) = n)
    (hst : P.St bs n [] 0 64 64 q1 br1) (hq1 : q1 ≤ bs.length)
    (HA : ∀ w : World, Rd w0 w g v bs 0 false → Calls Tryd.prog 43 #[ptr g, .int .i64 16] w fun e w' => e = .returned (.int .u64 n) ∧ Rd w0 w' g v bs q1 br1 ∧ But g w w') :
    Calls Tryd.prog 31 #[ptr g] w fun e w' => But g w w' ∧
      ((∃ (l : List Int) (a : Option Addr) (c : Nat), P.Is bs l ∧ (∀ m, P.Is bs m → m = l) ∧ OwnK 40 .u64 w' (g + 1) (.slice a l.length c) l ∧ e = .returned (.slice a l.length c) ∧ Rd w0 w' g v bs (P.packT l).length false) ∨
       (∃ (a : Option Addr) (k c q' : Nat), (∀ m, ¬ P.Is bs m) ∧ e = .returned (.slice a k c) ∧ Rd w0 w' g v bs q' true)) := by
  replace HA := hide HA
  have hlg := h.lt
  have hw0 : w0.heap.size ≤ w.heap.size := h.old.size
  have hnle : decide (1000 < (n : Int)) = false := by simp; omega
  go_enter Tryd.func31, Tryd.ntmps31
  go_wp2_with fail
  refine (HA.out _ h).mono ?_
  rintro e w3 ⟨rfl, h3, b3⟩
  clear HA h
  go_wp2_with fail
  refine (noWindow_any _).mono ?_
  rintro e w5 ⟨rfl, hb5⟩
  have h5 := h3.next hb5
  have b5 := b3.trans (But.of (g := g) hb5)
  have hl5 := h5.lt
  have hP := B2.new w5 (.int .i64 64) (.int .i64 64) 51
  have h6 := h5.next ((Below.refl _ _).alloc (Nat.le_refl _) (.cells #[.int .i64 64, .int .i64 64] 51))
  have b6 := b5.trans (But.of (g := g) ((Below.refl w5.heap.size w5).alloc (Nat.le_refl _) (.cells #[.int .i64 64, .int .i64 64] 51)))
  have hne : w5.heap.size ≠ g := by omega
  have hwl : w.heap.size ≤ w5.heap.size := b5.size
  clear h3 b3 hb5 h5 b5
  go_wp2_with fail
  generalize World.alloc w5 _ = W6 at hP h6 b6 ⊢
  go_loopw [4, 5, 8] (fun l last i wr => ∃ (j : Nat) (acc : List Int) (am : Option Addr) (cm : Nat) (la a b : Int) (q : Nat) (br : Bool), j ≤ n ∧ i = .int .i64 j ∧ l = .slice am j cm ∧ acc.length = j ∧ OwnK 40 .u64 wr (w5.heap.size + 1) (.slice am j cm) acc ∧
      last = .int .u64 la ∧ B2 wr w5.heap.size (.int .i64 a) (.int .i64 b) ∧ Rd w0 wr g v bs q br ∧ But g w wr ∧ Hid (P.St bs n acc la a b q br) ∧ Hid (br = false → q ≤ bs.length) ∧ Hid (br = false → P.val (bs.take 16) = n)) (fun _ _ i _ => n - (intOf i).toNat)
  case atStart => exact ⟨0, [], none, 0, 0, 64, 64, q1, br1, by omega, rfl, rfl, rfl, OwnK.nil _ _ _ _, rfl, hP, h6, b6, hide hst, hide (fun _ => hq1), hide hn⟩
  case round =>
    clear hP h6 b6
    obtain ⟨j, acc, am, cm, la, a, b, q, br, hj, rfl, rfl, hal, ho, rfl, hP, hR, hb, Hst, HQ, HV⟩ := hrel
    have hacc : acc.length ≤ 1000 := by omega
    have hlR := hR.lt
    by_cases hlt : j < n
    · have j1 : (j : Int) < (n : Int) := by omega
      cases br with
      | true =>
        obtain ⟨ko, kg, k0, k1, k2, k3, kf2, kf3⟩ := id hR
        go_wp2
        go_ret
        exact ⟨hb, .inr ⟨am, j, cm, q, Hst.out.stop rfl, rfl, hR⟩⟩
      | false =>
        have hv16 := HV.out rfl
        have hq := HQ.out rfl
        obtain ⟨ko, kg, k0, k1, k2, k3, kf2, kf3⟩ := id hR
        by_cases hz : j = 0
        · have hjz : ((j : Int) == 0) = true := by simp; exact hz
          have hacc0 : acc = [] := List.length_eq_zero_iff.1 (by omega)
          by_cases h64 : 64 ≤ (bs.drop q).length
          · have HN : Hid (P.St bs n (acc ++ [((P.val ((bs.drop q).take 64) : Nat) : Int)]) ((P.val ((bs.drop q).take 64) : Nat) : Int) a b (q + 64) false) := by
              rw [hacc0] at Hst ⊢
              exact Hst.out.first hv16 (by omega) h64
            have hl64 : q + 64 ≤ bs.length := by rw [List.length_drop] at h64; omega
            have HC := hide (fun (w : World) (h : Rd w0 w g v bs q false) => rpull_ok v bs q 64 g false w0 w hr n1 h (by decide) hl64)
            generalize P.val ((bs.drop q).take 64) = x at HN HC
            clear h64 hz hacc0
            go_wp2_with fail
            refine (HC.out _ hR).mono ?_
            rintro e w7 ⟨rfl, h7, b7⟩
            have hP7 := hP.but b7 hne
            have ho7 := ho.but b7 (by omega)
            have b8 := hb.trans b7
            have hl7 := h7.lt
            have hB7 : w5.heap.size + 1 ≤ w7.heap.size := hP7.lt
            clear HC k0 k1 k2 k3 kf2 kf3 ko kg hR hb hP ho b7
            go_wp2_with (at_builtin; go_must (refine wp_app1K rfl _ _ 22 40 .u64 8 rfl Tryd.underlying22 Tryd.info40 (by decide) (w5.heap.size + 1) (w5.heap.size + 1) (w7) (w7) _ acc ((x : Int)) ho7 (Below.refl _ _) (Nat.le_refl _) rfl rfl (by omega) hB7 ?_); intro v' w' hown' hb' hsz' hg'; obtain ⟨a', cap', hv'⟩ := hown'.shape; rw [hv'] at hown' ⊢; clear hv' hg')
            go_roundw
            case rel =>
              have e1 : (acc ++ [(x : Int)]).length = j + 1 := by simp; omega
              rw [e1] at hown'
              refine ⟨j + 1, acc ++ [(x : Int)], a', cap', (x : Int), _, _, q + 64, _, by omega, by go_num, (by first | rfl | rw [e1]), e1, hown', rfl, B2.belowB hP7 hb' (by omega), Rd.belowB h7 hb' (by omega), But.belowB b8 hb' (by omega), HN, ?_, ?_⟩
              · exact hide fun h => (by first | omega | cases h)
              · exact hide fun _ => hv16
            case measure => simp [intOf]; omega
          · have HN := hide (fun acc' la' => @P.St.dead bs n acc' la' a b q (by
              rw [hacc0] at Hst
              exact Hst.out.first_none hv16 (by omega) (by omega)))
            have hl64 : bs.length < q + 64 := by rw [List.length_drop] at h64; omega
            have HC := hide (fun (w : World) (h : Rd w0 w g v bs q false) => rpull_bad v bs q 64 g false w0 w hr n1 h (by decide) hq hl64)
            clear h64 hz hacc0
            go_wp2_with fail
            refine (HC.out _ hR).mono ?_
            rintro e w7 ⟨rfl, h7, b7⟩
            have hP7 := hP.but b7 hne
            have ho7 := ho.but b7 (by omega)
            have b8 := hb.trans b7
            have hl7 := h7.lt
            have hB7 : w5.heap.size + 1 ≤ w7.heap.size := hP7.lt
            clear HC k0 k1 k2 k3 kf2 kf3 ko kg hR hb hP ho b7
            go_wp2_with (at_builtin; go_must (refine wp_app1K rfl _ _ 22 40 .u64 8 rfl Tryd.underlying22 Tryd.info40 (by decide) (w5.heap.size + 1) (w5.heap.size + 1) (w7) (w7) _ acc ((0 : Int)) ho7 (Below.refl _ _) (Nat.le_refl _) rfl rfl (by omega) hB7 ?_); intro v' w' hown' hb' hsz' hg'; obtain ⟨a', cap', hv'⟩ := hown'.shape; rw [hv'] at hown' ⊢; clear hv' hg')
            go_roundw
            case rel =>
              have e1 : (acc ++ [(0 : Int)]).length = j + 1 := by simp; omega
              rw [e1] at hown'
              refine ⟨j + 1, acc ++ [(0 : Int)], a', cap', (0 : Int), _, _, q, _, by omega, by go_num, (by first | rfl | rw [e1]), e1, hown', rfl, B2.belowB hP7 hb' (by omega), Rd.belowB h7 hb' (by omega), But.belowB b8 hb' (by omega), hide (HN.out _ _), ?_, ?_⟩
              · exact hide fun h => (by first | omega | cases h)
              · exact hide fun _ => hv16
            case measure => simp [intOf]; omega
        · have hjz : ((j : Int) == 0) = false := by simp; omega
          obtain ⟨e1, e2, e3, e4, e5, e6, e7⟩ := Hst.out.run rfl
          have HC := hide (fun (w : World) (h : Rd w0 w g v bs q false) => turn_any v bs q g (P.win acc acc.length) w0 w hr n1 ht h hq (P.win_ok e6 _))
          have HY := hide (fun t ht => e2 ▸ u64_nxt e6 t ht)
          have HS1 := hide (fun t (ht : t < 18446744073709551616) hf => Hst.out.next hv16 (by omega) (by omega) t ht hf)
          have HS2 := hide (fun hf => Hst.out.next_none hv16 (by omega) (by omega) hf)
          have HLe := hide (fun t (hf : P.Fr (bs.drop q) (P.tbits (P.win acc acc.length) t)) => hf.len)
          rw [← e3, ← e4] at HC
          clear e1 e2 e3 e4 e5 e6 e7 hz
          generalize P.win acc acc.length = p at HC HS1 HS2 HLe
          obtain ⟨p0, p1, pf0, pf1⟩ := id hP
          go_wp2_with fail
          refine (HC.out _ hR).mono ?_
          rintro e w7 ⟨b7, ⟨t, ht1, hfr, rfl, h7⟩ | ⟨t, c, d, q', hno, rfl, h7⟩⟩
          · have HN := hide (HS1.out t ht1 hfr)
            have HYt := hide (HY.out t ht1)
            have hle2 := HLe.out t hfr
            rw [List.length_drop] at hle2
            have hP7 := hP.but b7 hne
            have ho7 := ho.but b7 (by omega)
            have b8 := hb.trans b7
            have hl7 := h7.lt
            have hB7 : w5.heap.size + 1 ≤ w7.heap.size := hP7.lt
            generalize P.nw p t = p' at HN ⊢
            generalize (P.tbits p t).length = k at HN h7 hle2
            generalize P.nxt acc t = y at HN HYt
            clear HC k0 k1 k2 k3 kf2 kf3 ko kg hR hb hP ho b7 p0 p1 pf0 pf1 HS1 HS2 HLe HY hfr
            have hP8 := hP7.set (.int .i64 p'.1) (.int .i64 p'.2)
            have h8 := (h7.other (j := 0) hne (by omega) (.int .i64 p'.1)).other (j := 1) hne (by omega) (.int .i64 p'.2)
            have b9 := (b8.setNew (b := w5.heap.size) hwl 0 (.int .i64 p'.1)).setNew (b := w5.heap.size) hwl 1 (.int .i64 p'.2)
            have ho8 := OwnK.set2 ho7 (Nat.lt_succ_self _) (.int .i64 p'.1) (.int .i64 p'.2)
            have hB7 : w5.heap.size + 1 ≤ ((w7.setCell ⟨w5.heap.size, 0, none⟩ (.int .i64 p'.1)).setCell ⟨w5.heap.size, 1, none⟩ (.int .i64 p'.2)).heap.size := by simpa using hB7
            obtain ⟨p0, p1, pf0, pf1⟩ := id hP7
            rw [← HYt.out] at HN
            go_wp2_with (at_builtin; go_must (refine wp_app1K rfl _ _ 22 40 .u64 8 rfl Tryd.underlying22 Tryd.info40 (by decide) (w5.heap.size + 1) (w5.heap.size + 1) (((w7.setCell ⟨w5.heap.size, 0, none⟩ (.int .i64 p'.1)).setCell ⟨w5.heap.size, 1, none⟩ (.int .i64 p'.2))) (((w7.setCell ⟨w5.heap.size, 0, none⟩ (.int .i64 p'.1)).setCell ⟨w5.heap.size, 1, none⟩ (.int .i64 p'.2))) _ acc (bits BinOp.xor IntKind.u64 la (t : Int)) ho8 (Below.refl _ _) (Nat.le_refl _) rfl (by show Value.slice (some ⟨w7.heap.size, 0, none⟩) 1 1 = _; simp) (by omega) hB7 ?_); intro v' w' hown' hb' hsz' hg'; obtain ⟨a', cap', hv'⟩ := hown'.shape; rw [hv'] at hown' ⊢; clear hv' hg')
            go_roundw
            case rel =>
              have e1 : (acc ++ [bits BinOp.xor IntKind.u64 la (t : Int)]).length = j + 1 := by simp; omega
              rw [e1] at hown'
              refine ⟨j + 1, acc ++ [bits BinOp.xor IntKind.u64 la (t : Int)], a', cap', bits BinOp.xor IntKind.u64 la (t : Int), _, _, q + k, _, by omega, by go_num, (by first | rfl | rw [e1]), e1, hown', rfl, B2.belowB hP8 hb' (by omega), Rd.belowB h8 hb' (by omega), But.belowB b9 hb' (by omega), HN, ?_, ?_⟩
              · exact hide fun h => (by first | omega | cases h)
              · exact hide fun _ => hv16
            case measure => simp [intOf]; omega
          · have HN := hide (fun acc' la' a' b' q' => @P.St.dead bs n acc' la' a' b' q' (HS2.out hno))
            have hP7 := hP.but b7 hne
            have ho7 := ho.but b7 (by omega)
            have b8 := hb.trans b7
            have hl7 := h7.lt
            have hB7 : w5.heap.size + 1 ≤ w7.heap.size := hP7.lt
            clear HC k0 k1 k2 k3 kf2 kf3 ko kg hR hb hP ho b7 p0 p1 pf0 pf1 HS1 HS2 HLe HY hno
            have hP8 := hP7.set (.int .i64 c) (.int .i64 d)
            have h8 := (h7.other (j := 0) hne (by omega) (.int .i64 c)).other (j := 1) hne (by omega) (.int .i64 d)
            have b9 := (b8.setNew (b := w5.heap.size) hwl 0 (.int .i64 c)).setNew (b := w5.heap.size) hwl 1 (.int .i64 d)
            have ho8 := OwnK.set2 ho7 (Nat.lt_succ_self _) (.int .i64 c) (.int .i64 d)
            have hB7 : w5.heap.size + 1 ≤ ((w7.setCell ⟨w5.heap.size, 0, none⟩ (.int .i64 c)).setCell ⟨w5.heap.size, 1, none⟩ (.int .i64 d)).heap.size := by simpa using hB7
            obtain ⟨p0, p1, pf0, pf1⟩ := id hP7
            go_wp2_with (at_builtin; go_must (refine wp_app1K rfl _ _ 22 40 .u64 8 rfl Tryd.underlying22 Tryd.info40 (by decide) (w5.heap.size + 1) (w5.heap.size + 1) (((w7.setCell ⟨w5.heap.size, 0, none⟩ (.int .i64 c)).setCell ⟨w5.heap.size, 1, none⟩ (.int .i64 d))) (((w7.setCell ⟨w5.heap.size, 0, none⟩ (.int .i64 c)).setCell ⟨w5.heap.size, 1, none⟩ (.int .i64 d))) _ acc (bits BinOp.xor IntKind.u64 la (t : Int)) ho8 (Below.refl _ _) (Nat.le_refl _) rfl (by show Value.slice (some ⟨w7.heap.size, 0, none⟩) 1 1 = _; simp) (by omega) hB7 ?_); intro v' w' hown' hb' hsz' hg'; obtain ⟨a', cap', hv'⟩ := hown'.shape; rw [hv'] at hown' ⊢; clear hv' hg')
            go_roundw
            case rel =>
              have e1 : (acc ++ [bits BinOp.xor IntKind.u64 la (t : Int)]).length = j + 1 := by simp; omega
              rw [e1] at hown'
              refine ⟨j + 1, acc ++ [bits BinOp.xor IntKind.u64 la (t : Int)], a', cap', bits BinOp.xor IntKind.u64 la (t : Int), _, _, q', _, by omega, by go_num, (by first | rfl | rw [e1]), e1, hown', rfl, B2.belowB hP8 hb' (by omega), Rd.belowB h8 hb' (by omega), But.belowB b9 hb' (by omega), hide (HN.out _ _ _ _ _), ?_, ?_⟩
              · exact hide fun h => (by first | omega | cases h)
              · exact hide fun _ => hv16
            case measure => simp [intOf]; omega
    · obtain rfl : j = n := by omega
      have hd : decide ((j : Int) < (j : Int)) = false := by simp
      obtain ⟨ko, kg, k0, k1, k2, k3, kf2, kf3⟩ := id hR
      go_wp2
      go_ret
      cases br with
      | true => exact ⟨hb, .inr ⟨am, j, cm, q, Hst.out.stop rfl, rfl, hR⟩⟩
      | false =>
        obtain ⟨d1, d2, d3⟩ := Hst.out.done (HV.out rfl) hle hal
        subst hal
        subst d3
        exact ⟨hb, .inl ⟨acc, am, cm, d1, d2, ho.base (by omega), rfl, hR⟩⟩
end Go.Proofs.YteohlkpejdjenaaDoor
