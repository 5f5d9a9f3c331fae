/- Several texts in one. -/
import Derived.Test.YtfjbdgkdkbcnhaaDoorCsplitAll
import Derived.Test.YtfjbdgkdkbcnhaaDoorTsignsAll
import Derived.Test.YtfjbdgkdkbcnhaaDoorXsignsAll
import Derived.Test.YtfjbdgkdkbcnhaaDoorStrPAll
/- What the document's own SamplesFault and Sealed answer. -/
namespace Go.Proofs.YtfjbdgkdkbcnhaaDoor
open Go.RowKit
set_option linter.unusedVariables false
theorem P.put_f9 (u : Int) (h1 : u ≤ 80000) : u < 2 * 128 ^ 9 := by
  have : (128 : Int) ^ 9 = 9223372036854775808 := by decide
  omega
set_option maxHeartbeats 4000000 in
theorem sealed_any (v : Value) (l : List (Int × Int)) (w : World) (hr : RowS w v l) (hi : P.I64s l) (hn : l.length ≤ 1000) :
    Calls Tryd.prog 11 #[v] w fun e w' => ∃ v', e = .returned v' ∧ OwnB w' w.heap.size v' (P.sealB l) ∧ Below w.heap.size w w' := by
  have hT : (P.tms l).length ≤ 1000 := by unfold P.tms; simpa using hn
  have hM : (P.mss l).length ≤ 1000 := by unfold P.mss; simpa using hn
  have HTS := hide (fun (v : Value) (w' : World) (hr : RowK .i64 w' v (P.tms l)) => D.timeSigns_any v (P.tms l) w' hr (P.tms_i64 hi) hT)
  have HMS := hide (fun (v : Value) (w' : World) (hr : RowK .u64 w' v (P.mss l)) => X.measureSigns_any v (P.mss l) w' hr (P.mss_u64 l) hM)
  have hlT := P.packT_le hT
  have hlM := P.packM_le hM
  have HPT := hide (fun (w' : World) => packed_any (D.P.packT (P.tms l)) w' (by omega))
  have HPM := hide (fun (w' : World) => packed_any (X.P.packT (P.mss l)) w' (by omega))
  have HBT := hide (fun (w' : World) => bytesOf_any 9 ((D.P.packT (P.tms l)).length : Int) w' (by omega) (by omega) (P.put_f9 _ (by omega)) (by omega))
  have HBM := hide (fun (w' : World) => bytesOf_any 9 ((X.P.packT (P.mss l)).length : Int) w' (by omega) (by omega) (P.put_f9 _ (by omega)) (by omega))
  have HE : Hid (((P.putL 9 (D.P.packT (P.tms l)).length ++ P.pack (D.P.packT (P.tms l))) ++ P.putL 9 (X.P.packT (P.mss l)).length) ++ P.pack (X.P.packT (P.mss l)) = P.sealB l) := by
    show _ = _
    unfold P.sealB P.ptB P.put
    simp [List.append_assoc]
  have hpl1 : (P.pack (D.P.packT (P.tms l))).length ≤ 80000 := by rw [P.pack_len]; unfold P.bytesN; omega
  have hpl2 : (P.pack (X.P.packT (P.mss l))).length ≤ 80000 := by rw [P.pack_len]; unfold P.bytesN; omega
  have hput1 : (P.putL 9 ((D.P.packT (P.tms l)).length : Int)).length ≤ 10 := (P.put_len _).2
  have hput2 : (P.putL 9 ((X.P.packT (P.mss l)).length : Int)).length ≤ 10 := (P.put_len _).2
  obtain ⟨a, cap, rfl, ⟨hlc, hmax, hnn⟩, hcase⟩ := hr
  unfold maxLen at hmax
  have HI := hide hi
  clear hi
  go_enter Tryd.func11, Tryd.ntmps11
  go_wp2
  go_loopw [12, 3, 4] (fun i vt vm wr => SplitAt w l i vt vm wr) (fun i _ _ _ => l.length - (intOf i).toNat)
  case atStart => exact ⟨0, by omega, rfl, OwnK.nil _ _ _ _, OwnK.nil _ _ _ _, (fun k hk => by cases hk), Below.refl _ _⟩
  case round =>
    obtain ⟨k, hk, rfl, hot, hom, hap, hb⟩ := hrel
    have hsz := hb.size
    by_cases hlt : k < l.length
    · clear HTS HMS HPT HPM HBT HBM HE hpl1 hpl2 hput1 hput2 hlT hlM hT hM
      rcases hcase with h | ⟨p, o, rfl, hp, hc⟩
      · rw [h] at hlt; simp at hlt
      obtain ⟨g0, g1⟩ := hc k hlt
      replace g0 := (hb.cell (p := ⟨p, o + k * 2, none⟩) hp).trans g0
      replace g1 := (hb.cell (p := ⟨p, o + k * 2 + 1, none⟩) hp).trans g1
      have HT := hide (P.tms_snoc l k hlt)
      have HM := hide (P.mss_snoc l k hlt)
      have hlT : (P.tms (l.take k)).length = k := by unfold P.tms; simp; omega
      have hlM : (P.mss (l.take k)).length = k := by unfold P.mss; simp; omega
      have hIk := HI.out.at k
      generalize l.getD k (0, 0) = s at *
      obtain ⟨s0, s1⟩ := s
      simp only at g0 g1 hIk HT HM
      clear hc
      have hpr : p < wr.heap.size := by omega
      have n0 : (0 : Int) ≤ (k : Int) := by omega
      have n1 : (k : Int) < (l.length : Int) := by omega
      generalize P.tms (l.take k) = T at *
      generalize P.mss (l.take k) = M at *
      have hlT' : T.length ≤ 1000 := by omega
      have hlM' : M.length ≤ 1000 := by omega
      clear hlT hlM
      have HP := hide hap
      have ot5 := hot.below ((Below.refl _ _).alloc (Nat.le_refl _) (.cells #[.int .i64 s0, .int .i64 s1] 49)) (Nat.le_refl _)
      have om5 := hom.below ((Below.refl _ _).alloc (Nat.le_refl _) (.cells #[.int .i64 s0, .int .i64 s1] 49)) (Nat.le_refl _)
      have b5 := hb.alloc hsz (.cells #[.int .i64 s0, .int .i64 s1] 49)
      have HTl := hide (fun k hk => (hot.lt k hk).2)
      have HMl := hide (fun k hk => (hom.lt k hk).2)
      have s5 := b5.size
      clear hap hot hom hb
      have d5 : (wr.alloc (.cells #[.int .i64 s0, .int .i64 s1] 49)).cell? ⟨wr.heap.size, 1, none⟩ = some (.int .i64 s1) := by simp
      have z5 : (wr.alloc (.cells #[.int .i64 s0, .int .i64 s1] 49)).heap.size = wr.heap.size + 1 := by simp
      have hmu : IntKind.u64.wrap s1 = P.mu s1 := by rw [IntKind.wrap_u64]; rfl
      go_wp2_with (first
        | (at_builtin; refine wp_app1At rfl (.tmp 21) (.tmp 25) 39 50 .u64 8 rfl Tryd.underlying39 infoU (by decide) w.heap.size w.heap.size w w6 _ M (P.mu s1) om6 b6 (Nat.le_refl _) rfl rfl (by omega) b6.size ?_; intro vm' w7 om7 b7 sz7 hg7 at7)
        | (at_builtin; refine wp_app1At rfl (.tmp 16) (.tmp 19) 38 2 .i64 8 rfl Tryd.underlying38 infoI (by decide) w.heap.size w.heap.size w _ _ T s0 ot5 b5 (Nat.le_refl _) rfl (show Value.slice (some ⟨wr.heap.size + 1, 0, none⟩) 1 1 = _ by rw [z5]) (by omega) s5 ?_; intro vt' w6 ot6 b6 sz6 hg6 at6; have d6 := hg6.cell d5 (fun e => by have := HTl.out _ e.symm; simp at this); have om6 := om5.grown hg6 (fun k h1 h2 => HP.out k h2 h1)))
      rw [z5] at at6
      have hap6 : ∀ k, vt'.ownBlock = some k → u4.ownBlock ≠ some k := by
        intro j hj hj2
        rcases at6 with h | h
        · exact HP.out j (by rw [← h]; exact hj) hj2
        · rw [h] at hj
          have h1 := HMl.out j hj2
          have h2 := Option.some.inj hj
          omega
      go_roundw
      case rel =>
        refine ⟨k + 1, by omega, by go_num, ?_, ?_, ?_, b7⟩
        · rw [HT.out]; exact ot6.grown hg7 (fun j h1 h2 => hap6 j h1 h2)
        · rw [HM.out]; exact om7
        · intro j h1 h2
          rcases at7 with h | h
          · exact hap6 j h1 (by rw [← h]; exact h2)
          · rw [h] at h2
            have h3 := (ot6.lt j h1).2
            have h4 := Option.some.inj h2
            omega
      case measure => simp [intOf]; omega
    · have hd : decide ((k : Int) < (l.length : Int)) = false := by simp; omega
      obtain rfl : k = l.length := by omega
      rw [List.take_length] at hot hom
      generalize D.P.packT (P.tms l) = bt at *
      generalize X.P.packT (P.mss l) = bm at *
      generalize P.tms l = tl at *
      generalize P.mss l = ml at *
      generalize P.pack bt = kt at *
      generalize P.pack bm = km at *
      generalize P.putL 9 (bt.length : Int) = pt at *
      generalize P.putL 9 (bm.length : Int) = pm at *
      clear hap hcase HI hnn
      go_wp2_with fail
      refine (HTS.out _ _ hot.row).mono ?_
      rintro e w2 ⟨rfl, hb2⟩
      replace hom := hom.below hb2 (Nat.le_refl _)
      replace hb := Below.next hb hb2
      clear hb2 HTS hot
      go_wp2_with fail
      refine (HPT.out _).mono ?_
      rintro e w3 ⟨vy, rfl, ow3, hb3⟩
      replace hom := hom.below hb3 (Nat.le_refl _)
      replace hb := Below.next hb hb3
      obtain ⟨ay, cy, hvy⟩ := OwnB.shp ow3
      rw [hvy] at ow3 ⊢
      clear hb3 HPT hvy
      go_wp2_with fail
      refine (HMS.out _ _ hom.row).mono ?_
      rintro e w4 ⟨rfl, rfl⟩
      clear HMS hom
      go_wp2_with fail
      refine (HPM.out _).mono ?_
      rintro e w5 ⟨vz, rfl, ow5, hb5⟩
      replace ow3 := OwnB.below ow3 hb5 (Nat.le_refl _)
      replace hb := Below.next hb hb5
      obtain ⟨az, cz, hvz⟩ := OwnB.shp ow5
      rw [hvz] at ow5 ⊢
      clear hb5 HPM hvz
      go_wp2
      obtain ⟨W, hW⟩ : ∃ W, (w5.alloc (.cells #[.slice ay kt.length cy, .int .i64 bt.length] 43)).alloc (.cells #[.slice az km.length cz, .int .i64 bm.length] 43) = W := ⟨_, rfl⟩
      have hb5W : Below w5.heap.size w5 W := by rw [← hW]; exact ((Below.refl _ _).alloc (Nat.le_refl _) _).alloc (by simp) _
      have b70 : W.cell? ⟨w5.heap.size, 0, none⟩ = some (.slice ay kt.length cy) := by rw [← hW]; simp
      have b71 : W.cell? ⟨w5.heap.size, 1, none⟩ = some (.int .i64 bt.length) := by rw [← hW]; simp
      have b80 : W.cell? ⟨w5.heap.size + 1, 0, none⟩ = some (.slice az km.length cz) := by rw [← hW]; simp
      have b81 : W.cell? ⟨w5.heap.size + 1, 1, none⟩ = some (.int .i64 bm.length) := by rw [← hW]; simp
      have hbW := Below.next hb hb5W
      have row7 : RowB W.drew (.slice ay kt.length cy) kt := (OwnB.below ow3 hb5W (Nat.le_refl _)).row
      have row8 : RowB W.drew (.slice az km.length cz) km := (OwnB.below ow5 hb5W (Nat.le_refl _)).row
      have szW := hbW.size
      have hw1 : IntKind.u64.wrap (bt.length : Int) = (bt.length : Int) := by rw [IntKind.wrap_u64]; omega
      have hw2 : IntKind.u64.wrap (bm.length : Int) = (bm.length : Int) := by rw [IntKind.wrap_u64]; omega
      rw [hW]
      clear hW hb5W hb ow3 ow5
      have hlT9 := hide hlT
      have hlM9 := hide hlM
      have b1 : (bt.length : Int) ≤ 9223372036854775807 := by omega
      have b2 : (bm.length : Int) ≤ 9223372036854775807 := by omega
      clear hlT hlM
      go_region_law (first
        | (refine step_appB rfl (.tmp 37) (.tmp 39) rfl W.heap.size W.heap.size W _ _ _ pt kt own7 row7c hb7 (Nat.le_refl _) rfl rfl (by omega) hb7.size ?_; intro v9 w9 own9 hb9 _ _)
        | (go_simp; go_at_call 24; refine (HBT.out _).mono ?_; rintro e w7 ⟨v7, rfl, own7, hb7a⟩; have row7c := RowK.below row7 hb7a (Nat.le_refl _); have e70 : w7.cell? ⟨w5.heap.size, 0, none⟩ = some (.slice ay kt.length cy) := keep_cell (w := W.drew) b70 hb7a; have hb7 : Below W.heap.size W w7 := Below.next ((Below.refl _ W).drew) hb7a))
      all_goals
        have f80 := keep_cell b80 hb9
        have f81 := keep_cell b81 hb9
        go_wp2_with fail
        refine (HBM.out _).mono ?_
        rintro e w10 ⟨v10, rfl, own10, hb10⟩
        have own9b := OwnB.below own9 hb10 (Nat.le_refl _)
        have hb10W := Below.next hb9 hb10
        have g80 := keep_cell b80 hb10W
        go_wp2_with (first
          | (at_builtin; refine wp_appRow rfl _ _ rfl W.heap.size W.heap.size W _ _ _ (pt ++ kt ++ pm) km own11 (RowK.below row8 (w' := w11) (B := W.heap.size) (Below.trans ((Below.refl _ W.drew)) (by exact ⟨hb11.os, hb11.tape, hb11.output, hb11.size, hb11.block⟩)) (Nat.le_refl _)) hb11 (Nat.le_refl _) rfl rfl (by simp only [List.length_append]; omega) hb11.size ?_; intro v12 w12 own12 hb12 _ _)
          | (at_builtin; refine wp_appRow rfl _ _ rfl W.heap.size W.heap.size W _ _ _ (pt ++ kt) pm own9b (OwnB.row own10) hb10W (Nat.le_refl _) rfl rfl (by simp only [List.length_append]; omega) hb10W.size ?_; intro v11 w11 own11 hb11 _ _; have h80 := keep_cell b80 hb11))
        go_ret
        exact ⟨_, rfl, by rw [← HE.out]; exact OwnB.base own12 szW, Below.next hbW hb12⟩
end Go.Proofs.YtfjbdgkdkbcnhaaDoor
