/- What delta.pullTimes and delta.Unpack answer. -/
import Derived.Test.YtlejpbghakaooaaDoorDpchg
import Derived.Test.YtlejpbghakaooaaDoorDeltaR
namespace Go.Proofs.YtlejpbghakaooaaDoor
open Go.RowKit
set_option linter.unusedVariables false

theorem front0_len (n : Nat) : (P.front [] n 0).length = 16 := by rw [P.front_zero, P.ofVal_len]
theorem packT_front (l : List Int) (n : Nat) (h : l.length = n) : P.front l n l.length = P.packT l := by unfold P.packT; rw [h]

set_option maxHeartbeats 2000000 in
theorem times_loop (v : Value) (bs : List Bool) (n : Nat) (w : World) (hr : RowB w v (P.pack bs)) (n1 : (bs.length : Int) ≤ 9223372036854775000) (hs : Shp w) (h16 : 16 ≤ bs.length) (hn : P.val (bs.take 16) = n) (hle : n ≤ 1000) :
    Calls Tryd.prog 26 #[.agg #[v, .int .i64 bs.length]] w fun e w' => Below w.heap.size w w' ∧
      ((∃ (l : List Int) (a : Option Addr) (c : Nat), P.Is bs l ∧ (∀ m, P.Is bs m → m = l) ∧ OwnK 2 .i64 w' w.heap.size (.slice a l.length c) l ∧ e = .returned (.tuple #[.slice a l.length c, .int .i64 ((P.packT l).length : Nat), .int .i64 0])) ∨
       ((∀ m, ¬ P.Is bs m) ∧ e = .returned (.tuple #[.slice none 0 0, .int .i64 0, .int .i64 4]))) := by
  have HC16 : Hid (∀ w : World, RowB w v (P.pack bs) → Calls Tryd.prog 35 #[.agg #[v, .int .i64 bs.length], .int .i64 0, .int .i64 16] w fun e w' => e = .returned (.tuple #[.int .u64 n, .int .i64 0]) ∧ Below w.heap.size w w') := by
    intro w hr
    have h := pull_ok v bs 0 16 w hr (by omega) (by decide) (by omega)
    rw [List.drop_zero, hn] at h
    exact h
  have HCnt : Hid (∀ m, P.Is bs m → m.length = n) := fun m hm => by rw [← hm.count.2, hn]
  have H64 : Hid (∀ (A : Nat) (w : World), RowB w v (P.pack bs) → A + 64 ≤ bs.length → Calls Tryd.prog 35 #[.agg #[v, .int .i64 bs.length], .int .i64 A, .int .i64 64] w fun e w' => e = .returned (.tuple #[.int .u64 (P.val ((bs.drop A).take 64) : Nat), .int .i64 0]) ∧ Below w.heap.size w w') :=
    fun A w hr h => pull_ok v bs A 64 w hr (by omega) (by decide) (by omega)
  have H64n : Hid (∀ (A : Nat) (w : World), RowB w v (P.pack bs) → A ≤ bs.length → bs.length < A + 64 → Calls Tryd.prog 35 #[.agg #[v, .int .i64 bs.length], .int .i64 A, .int .i64 64] w fun e w' => e = .returned (.tuple #[.int .u64 0, .int .i64 3]) ∧ Below w.heap.size w w') :=
    fun A w hr h h2 => pull_short v _ _ _ _ w hr (P.pack_byt _ bs) (by omega) (P.pack_ok bs) (by omega) (by omega) (by omega) (by omega) (by omega)
  have HF0 : Hid (P.Fr bs (P.front [] n 0)) := by
    show P.Fr _ _
    have hl : (bs.take 16).length = 16 := by rw [List.length_take]; omega
    rw [P.front_zero, ← hn, P.ofVal_of _ _ hl]
    unfold P.Fr; rw [hl]
  have hr1 := hr.below ((Below.refl _ _).alloc (Nat.le_refl _) (.cells #[v, .int .i64 bs.length] 25)) (Nat.le_refl _)
  clear hn
  go_enter Tryd.func26, Tryd.ntmps26
  go_wp2_with (go_at_call 35; go_must (refine (HC16.out _ hr1).mono ?_); rintro e w2 ⟨rfl, hb2⟩)
  obtain ⟨x0, x1, hbw, hsz⟩ := box2 hb2
  have hB : Below (w.heap.size + 1) (w.alloc (.cells #[v, .int .i64 bs.length] 25)) w2 := hb2.mono (by simp)
  generalize hW : w.alloc (.cells #[v, .int .i64 bs.length] 25) = W at hB
  have c0 : W.cell? ⟨w.heap.size, 0, none⟩ = some v := by rw [← hW]; simp
  have c1 : W.cell? ⟨w.heap.size, 1, none⟩ = some (.int .i64 bs.length) := by rw [← hW]; simp
  have hbW : Below w.heap.size w W := by rw [← hW]; exact (Below.refl _ _).alloc (Nat.le_refl _) _
  clear hW hb2 hr1 x0 x1 hbw HC16
  go_loopw [7, 8, 9, 10, 11] (fun vl la st at' i wr => ∃ (acc : List Int) (a : Option Addr) (c : Nat), acc.length ≤ n ∧ P.I64 acc ∧ P.Fr bs (P.front acc n acc.length) ∧ (∀ m, P.Is bs m → m.take acc.length = acc) ∧
      vl = .slice a acc.length c ∧ la = .int .i64 (P.lst acc acc.length) ∧ st = .int .i64 (P.stp acc acc.length) ∧ at' = .int .i64 (P.front acc n acc.length).length ∧ i = .int .i64 acc.length ∧
      OwnK 2 .i64 wr (w.heap.size + 1) (.slice a acc.length c) acc ∧ Below (w.heap.size + 1) W wr) (fun _ _ _ _ i _ => n - (intOf i).toNat)
  case atStart => exact ⟨[], none, 0, by simp, (fun x hx => by cases hx), HF0.out, fun m _ => rfl, rfl, rfl, rfl, by rw [show ([] : List Int).length = 0 from rfl, front0_len]; rfl, rfl, OwnK.nil _ _ _ _, hB⟩
  case round =>
    obtain ⟨acc, a, c, hacc, hi, hfr, hcp, rfl, rfl, rfl, rfl, rfl, hown, hbr⟩ := hrel
    have y0 := (hbr.cell (p := ⟨w.heap.size, 0, none⟩) (by simp)).trans c0
    have y1 := (hbr.cell (p := ⟨w.heap.size, 1, none⟩) (by simp)).trans c1
    have hbf : Below w.heap.size w wr := hbW.trans (hbr.mono (by omega))
    have hrr : RowB wr v (P.pack bs) := hr.below hbf (Nat.le_refl _)
    have hsr : Shp wr := hs.next hbf
    have hszr : w.heap.size + 1 ≤ wr.heap.size := Nat.le_trans (by have := World.block_lt_of_cell? _ _ c0; exact this) hbr.size
    have hAl := hfr.len
    by_cases hlt : acc.length < n
    · by_cases hz : acc.length = 0
      · have htest : ((acc.length : Int) == 0) = true := by simp; exact List.length_eq_zero_iff.1 hz
        have HM : Hid (∀ m, P.Is bs m → P.Fr (bs.drop (P.front acc n acc.length).length) (P.tb m acc.length)) := fun m hm => by
          have e := HCnt.out m hm
          have h1 := hm.at (hcp m hm) (by omega)
          rw [e] at h1
          exact h1
        by_cases hl : (P.front acc n acc.length).length + 64 ≤ bs.length
        · obtain ⟨f, hf⟩ : ∃ f, f = P.val ((bs.drop (P.front acc n acc.length).length).take 64) := ⟨_, rfl⟩
          have HN : Hid (P.Fr bs (P.front (acc ++ [wrap64 f]) n (acc.length + 1)) ∧ (P.front (acc ++ [wrap64 f]) n (acc.length + 1)).length = (P.front acc n acc.length).length + 64) := by
            have h1 := P.first_sound (bs.drop (P.front acc n acc.length).length) (by rw [List.length_drop]; omega)
            rw [← hf] at h1
            have hnil : acc = [] := List.length_eq_zero_iff.1 hz
            have h2 : P.Fr (bs.drop (P.front acc n acc.length).length) (P.tb (acc ++ [wrap64 f]) acc.length) := by rw [hz]; subst hnil; exact h1
            have h3 := P.read_step bs acc n (wrap64 f) hfr h2
            have h4 : (P.tb (acc ++ [wrap64 f]) acc.length).length = 64 := by rw [hz, P.tb_zero, P.ofVal_len]
            rw [h4] at h3
            exact h3
          have HG : Hid (∀ m, P.Is bs m → m.take (acc.length + 1) = acc ++ [wrap64 f]) := fun m hm => by
            have h1 := HM.out m hm
            have hzt : P.tb m acc.length = P.tb m 0 := by rw [hz]
            rw [hzt] at h1
            have h2 := (P.first_full _ m hm.2.1 h1).2
            rw [← hf] at h2
            have e := HCnt.out m hm
            rw [P.take_next m acc (hcp m hm) (by omega), ← h2]
            congr 3
          have HL := hide (P.lst_new acc (wrap64 f))
          have HS : Hid (P.stp (acc ++ [wrap64 f]) (acc.length + 1) = P.stp acc acc.length) := by show _ = _; rw [hz]; rfl
          have hf2 : f < 18446744073709551616 := by
            have h1 := P.val_take_lt bs (P.front acc n acc.length).length 64
            rw [← hf] at h1
            omega
          have HC : Hid (∀ w : World, RowB w v (P.pack bs) → Calls Tryd.prog 35 #[.agg #[v, .int .i64 bs.length], .int .i64 (P.front acc n acc.length).length, .int .i64 64] w fun e w' => e = .returned (.tuple #[.int .u64 f, .int .i64 0]) ∧ Below w.heap.size w w') := by
            intro w hr
            have h1 := H64.out _ w hr hl
            rw [← hf] at h1
            exact h1
          have HI := hide (P.i64_snoc hi (P.wrap64_lo f) (P.wrap64_hi f))
          clear hf hfr hcp HM hi H64 H64n HF0 hz
          generalize (P.front acc n acc.length).length = A at *
          generalize P.lst acc acc.length = la at *
          generalize P.stp acc acc.length = st at *
          go_wp2_with (first
            | (go_at_call 35; go_must (refine (HC.out _ hrr).mono ?_); rintro e w3 ⟨rfl, hb3⟩; have hown3 := OwnK.below hown hb3 (Nat.le_refl _); have hbr3 := hbr.trans (hb3.mono hszr); have hsz3 := Nat.le_trans hszr hb3.size; clear hb3)
            | (at_builtin; go_must (refine wp_app1K rfl _ _ 22 2 .i64 8 rfl Tryd.underlying22 Tryd.info2 (by decide) (w.heap.size + 1) (w.heap.size + 1) W w3 _ acc _ hown3 hbr3 (Nat.le_refl _) rfl rfl (by omega) hsz3 ?_); intro v' w' hown' hb' hsz' hg'; obtain ⟨a', cap', hv'⟩ := hown'.shape; rw [hv'] at hown' ⊢; clear hv'))
          go_roundw
          case rel =>
            have e1 : (acc ++ [wrap64 (f : Int)]).length = acc.length + 1 := by simp
            refine ⟨acc ++ [wrap64 f], a', cap', by rw [e1]; omega, HI.out, by rw [e1]; exact HN.out.1, by rw [e1]; exact HG.out, by rw [e1], by rw [e1, HL.out], by rw [e1, HS.out], ?_, by rw [e1]; simp, hown', hb'⟩
            rw [e1, HN.out.2]; simp
          case measure => simp [intOf]; omega
        · have HNo : Hid (∀ m, ¬ P.Is bs m) := fun m hm => by
            have h1 := HM.out m hm
            have hzt : P.tb m acc.length = P.tb m 0 := by rw [hz]
            rw [hzt] at h1
            have h2 := (P.first_full _ m hm.2.1 h1).1
            rw [List.length_drop] at h2
            omega
          have HC := hide (fun (w : World) (hr : RowB w v (P.pack bs)) => H64n.out (P.front acc n acc.length).length w hr hAl (by omega))
          clear hfr hcp HM hi H64 H64n HF0 hz hl
          generalize (P.front acc n acc.length).length = A at *
          generalize P.lst acc acc.length = la at *
          generalize P.stp acc acc.length = st at *
          go_wp2_with (go_at_call 35; go_must (refine (HC.out _ hrr).mono ?_); rintro e w3 ⟨rfl, hb3⟩; have hb4 := Below.next hbf hb3; clear hb3)
          exact bodyPost_ret (v := .tuple #[.slice none 0 0, .int .i64 0, .int .i64 4]) (by simp [results, Tryd.results26, go_sem]) rfl ⟨hb4, .inr ⟨HNo.out, rfl⟩⟩
      · have htest : ((acc.length : Int) == 0) = false := by simp; intro h; exact hz (by rw [h]; rfl)
        have hpos : 0 < acc.length := by omega
        have HM : Hid (∀ m, P.Is bs m → P.Fr (bs.drop (P.front acc n acc.length).length) (P.tb m acc.length)) := fun m hm => by
          have e := HCnt.out m hm
          have h1 := hm.at (hcp m hm) (by omega)
          rw [e] at h1
          exact h1
        have HC := hide (pullChange_any v bs (P.front acc n acc.length).length wr hrr n1 hAl hsr)
        have HStep := hide (fun (c : Int) (h0 : -9223372036854775808 ≤ c) (h1 : c ≤ 9223372036854775807) (hf : P.Fr (bs.drop (P.front acc n acc.length).length) (P.chg c)) => P.read_step bs acc n (P.nxt acc c) hfr (by rw [P.tb_next acc c h0 h1 hpos]; exact hf))
        have HTn := hide (fun (c : Int) (h0 : -9223372036854775808 ≤ c) (h1 : c ≤ 9223372036854775807) => P.tb_next acc c h0 h1 hpos)
        have HG : Hid (∀ (c : Int), -9223372036854775808 ≤ c → c ≤ 9223372036854775807 → P.Fr (bs.drop (P.front acc n acc.length).length) (P.chg c) → ∀ m, P.Is bs m → m.take (acc.length + 1) = acc ++ [P.nxt acc c]) := fun c h0 h1 hf m hm => by
          have e := HCnt.out m hm
          rw [P.take_next m acc (hcp m hm) (by omega), P.next_full m acc hm.2.1 (hcp m hm) hpos c h0 h1 _ hf (HM.out m hm)]
        have HL := hide (fun y => P.lst_new acc y)
        have HS := hide (fun c => P.stp_new acc c hpos)
        have HX : Hid (∀ c, P.nxt acc c = wrap64 (P.lst acc acc.length + wrap64 (P.stp acc acc.length + c))) := fun c => rfl
        have HI := hide (fun c => P.i64_snoc hi (P.wrap64_lo (P.lst acc acc.length + wrap64 (P.stp acc acc.length + c))) (P.wrap64_hi _))
        have HNo : Hid (NoChg (bs.drop (P.front acc n acc.length).length) → ∀ m, ¬ P.Is bs m) := fun hno m hm => by
          have h1 := HM.out m hm
          unfold P.tb at h1
          rw [if_neg hz] at h1
          exact hno _ (P.wrap64_lo _) (P.wrap64_hi _) h1
        clear hfr hcp HM hi H64 H64n HF0 hz
        generalize hA : (P.front acc n acc.length).length = A at *
        generalize P.lst acc acc.length = la at *
        generalize P.stp acc acc.length = st at *
        have HA := hide hA
        clear hA
        go_wp2_with fail
        refine HC.out.mono ?_
        rintro e w3 ⟨hb3, ⟨c, c0', c1', hfc, rfl⟩ | ⟨er, her, hno, rfl⟩⟩
        · have hst := HStep.out c c0' c1' hfc
          have htn := HTn.out c c0' c1'
          have hcl := P.chg_le c
          rw [htn] at hst
          have HG2 := hide (HG.out c c0' c1' hfc)
          have HL2 := hide (HL.out (P.nxt acc c))
          have HS2 := hide (HS.out c)
          have HI2 := hide (HI.out c)
          have hx := HX.out c
          rw [hx] at hst HG2 HL2 HS2
          have HN := hide hst
          clear hst htn hx HG HL HS HI HX HStep HTn HNo HC hfc
          generalize (P.chg c).length = L at *
          have hown3 := OwnK.below hown hb3 (Nat.le_refl _)
          have hbr3 := hbr.trans (hb3.mono hszr)
          have hsz3 := Nat.le_trans hszr hb3.size
          clear hb3
          go_wp2_with (at_builtin; go_must (refine wp_app1K rfl _ _ 22 2 .i64 8 rfl Tryd.underlying22 Tryd.info2 (by decide) (w.heap.size + 1) (w.heap.size + 1) W w3 _ acc _ hown3 hbr3 (Nat.le_refl _) rfl rfl (by omega) hsz3 ?_); intro v' w' hown' hb' hsz' hg'; obtain ⟨a', cap', hv'⟩ := hown'.shape; rw [hv'] at hown' ⊢; clear hv')
          go_roundw
          case rel =>
            generalize wrap64 (la + wrap64 (st + c)) = y at *
            have e1 : (acc ++ [y]).length = acc.length + 1 := by simp
            refine ⟨acc ++ [y], a', cap', by rw [e1]; omega, HI2.out, by rw [e1]; exact HN.out.1, by rw [e1]; exact HG2.out, by rw [e1], by rw [e1, HL2.out], by rw [e1, HS2.out], ?_, by rw [e1]; simp, hown', hb'⟩
            rw [e1, HN.out.2]; simp
          case measure => simp [intOf]; omega
        · have HNo2 := hide (HNo.out hno)
          have hner : (er != 0) = true := bne_iff_ne.2 her
          have hb4 := Below.next hbf hb3
          clear HG HL HS HI HX HStep HTn HNo HC hno her hb3
          go_wp2
          exact bodyPost_ret (v := .tuple #[.slice none 0 0, .int .i64 0, .int .i64 4]) (by simp [results, Tryd.results26, go_sem]) rfl ⟨hb4, .inr ⟨HNo2.out, rfl⟩⟩
    · obtain rfl : acc.length = n := by omega
      have hd : decide ((acc.length : Int) < (acc.length : Int)) = false := by simp
      go_wp2
      rw [packT_front acc acc.length rfl] at hfr ⊢
      exact bodyPost_ret (v := .tuple #[.slice a acc.length c, .int .i64 ((P.packT acc).length : Nat), .int .i64 0]) (by simp [results, Tryd.results26, go_sem]) rfl ⟨hbf, .inl ⟨acc, a, c, ⟨hle, hi, hfr⟩, fun m hm => by
        have h1 := hcp m hm
        rw [← HCnt.out m hm, List.take_length] at h1
        exact h1, hown.base (by omega), rfl⟩⟩
end Go.Proofs.YtlejpbghakaooaaDoor
