/- XorTurned holds: at all measures and all bits that are turned, the law answers true and changes nothing that was there. -/
import Derived.Test.YteohlkpejdjenaaDoorXunp
import Derived.Test.YteohlkpejdjenaaDoorGood
namespace Go.Proofs.YteohlkpejdjenaaDoor
open Go.ChangeShapes Go.WideShapes Go.ChangeAt Go.RowKit
set_option linter.unusedVariables false
set_option linter.unusedSimpArgs false
namespace P
def xt (l : List Int) (b : Int) : List Int := l.map fun x => ((x.toNat ^^^ b.toNat : Nat) : Int)
theorem xt_len (l : List Int) (b : Int) : (xt l b).length = l.length := by simp [xt]
theorem xt_at (l : List Int) (b : Int) (j : Nat) (h : j < l.length) : (xt l b).getD j 0 = (((l.getD j 0).toNat ^^^ b.toNat : Nat) : Int) := by
  simp [xt, List.getD_eq_getElem?_getD, h]
theorem xt_u64 {l : List Int} {b : Int} (h : U64 l) (h0 : 0 ≤ b) (h1 : b ≤ 18446744073709551615) : U64 (xt l b) := by
  intro x hx
  simp only [xt, List.mem_map] at hx
  obtain ⟨t, ht, rfl⟩ := hx
  have := h t ht
  have := xor_lt t.toNat b.toNat (by omega) (by omega)
  omega
theorem xt_take {l : List Int} {b : Int} (hu : U64 l) (h0 : 0 ≤ b) (h1 : b ≤ 18446744073709551615) (j : Nat) (h : j < l.length) : (xt l b).take (j + 1) = (xt l b).take j ++ [bits BinOp.xor IntKind.u64 (l.getD j 0) b] := by
  have hb := hu.at j
  rw [u64_xor _ _ hb.1 (by omega) h0 (by omega), List.take_succ_eq_append_getElem (by rw [xt_len]; exact h)]
  simp [xt, List.getD_eq_getElem?_getD, h]
theorem xor_both (a b c : Nat) : (a ^^^ c) ^^^ (b ^^^ c) = a ^^^ b := by
  rw [Nat.xor_comm b c, Nat.xor_assoc, ← Nat.xor_assoc c c b, Nat.xor_self, Nat.zero_xor]
theorem tn_xt (l : List Int) (b : Int) (j : Nat) (h : j < l.length) : tn (xt l b) j = tn l j := by
  unfold tn
  rw [xt_at l b j h, xt_at l b (j - 1) (by omega), Int.toNat_natCast, Int.toNat_natCast, xor_both]
theorem win_xt (l : List Int) (b : Int) : ∀ (j : Nat), j ≤ l.length → win (xt l b) j = win l j
  | 0, _ => rfl
  | j + 1, h => by
    unfold win
    rw [win_xt l b j (by omega), tn_xt l b j (by omega)]
theorem front_one_len (l : List Int) (n : Nat) : (front l n 1).length = 80 := by
  rw [front_succ, front_zero, List.length_append, ofVal_len]
  unfold tb; rw [if_pos rfl, ofVal_len]
theorem front_xt (l : List Int) (b : Int) (n j : Nat) (h1 : 1 ≤ j) (h : j ≤ l.length) : (front (xt l b) n j).length = (front l n j).length ∧ 80 ≤ (front l n j).length ∧ (front (xt l b) n j).drop 80 = (front l n j).drop 80 := by
  induction j with
  | zero => omega
  | succ j ih =>
    rcases Nat.eq_zero_or_pos j with hz | hz
    · subst hz
      have e1 : (front (xt l b) n (0 + 1)).length = 80 := front_one_len (xt l b) n
      have e2 : (front l n (0 + 1)).length = 80 := front_one_len l n
      refine ⟨by rw [e1, e2], by omega, ?_⟩
      rw [List.drop_of_length_le (by omega), List.drop_of_length_le (by omega)]
    · obtain ⟨a1, a2, a3⟩ := ih hz (by omega)
      have et : tb (xt l b) j = tb l j := by
        unfold tb
        rw [if_neg (by omega), if_neg (by omega), win_xt l b j (by omega), tn_xt l b j (by omega)]
      rw [front_succ, front_succ, et]
      refine ⟨by rw [List.length_append, List.length_append, a1], by rw [List.length_append]; omega, ?_⟩
      rw [List.drop_append_of_le_length (by omega), List.drop_append_of_le_length (by omega), a3]
theorem packT_xt_len (l : List Int) (b : Int) : (packT (xt l b)).length = (packT l).length := by
  unfold packT
  rw [xt_len]
  rcases Nat.eq_zero_or_pos l.length with h | h
  · rw [h, front_zero, front_zero]
  · exact (front_xt l b _ _ h (Nat.le_refl _)).1
theorem packT_xt_bit (l : List Int) (b : Int) (k : Nat) (h1 : 1 ≤ l.length) (hk : 80 ≤ k) : val (((packT (xt l b)).drop k).take 1) = val (((packT l).drop k).take 1) := by
  have h := (front_xt l b l.length l.length h1 (Nat.le_refl _)).2.2
  have e : ∀ X : List Bool, X.drop k = (X.drop 80).drop (k - 80) := fun X => by rw [List.drop_drop]; congr 1; omega
  unfold packT
  rw [xt_len, e, h, ← e]
end P

set_option maxHeartbeats 1000000 in
/-- How the law ends where the second loop is not entered: the same error, as many bits. -/
theorem turned_end (v0 : Value) (l : List Int) (b : Int) (w : World) (hr : RowK .u64 w v0 l) (hu : P.U64 l) (b0 : 0 ≤ b) (b1 : b ≤ 18446744073709551615) (hlen : l.length * 8 ≤ 140737488351232) (hs : Tab w) (N er : Int) (hN : er = 2 ∧ N = 0 ∨ er = 0 ∧ (l.length = 0 ∨ 100 < l.length))
    (HP : ∀ (v : Value) (l' : List Int) (w' : World), (l' = l ∨ l' = P.xt l b) → RowK .u64 w' v l' → Tab w' → Calls Tryd.prog 9 #[v] w' fun e w2 => ∃ (ay : Option Addr) (ly cy : Nat), e = .returned (.tuple #[.agg #[.slice ay ly cy, .int .i64 N], .int .i64 er]) ∧ Below w'.heap.size w' w2) :
    Calls Tryd.prog 8 #[v0, .int .u64 b] w fun e w' => e = .returned (.bool true) ∧ Below w.heap.size w w' := by
  obtain ⟨a, cap, rfl, ⟨hlc, hmax, hnn⟩, hcase⟩ := hr
  have hr0 : Hid (RowK .u64 w (.slice a l.length cap) l) := ⟨a, cap, rfl, ⟨hlc, hmax, hnn⟩, hcase⟩
  unfold maxLen at hmax
  have HPh := hide HP
  clear HP
  go_enter Tryd.func8, Tryd.ntmps8
  go_wp2_with (go_at_call 18; go_must (refine (xors_any _ hs).mono ?_); rintro e w1 ⟨rfl, hb1⟩)
  go_loopw [5, 21] (fun m i wr => ∃ (j : Nat) (am : Option Addr) (cm : Nat), j ≤ l.length ∧ i = .int .i64 j ∧ m = .slice am j cm ∧ OwnK 40 .u64 wr w.heap.size (.slice am j cm) ((P.xt l b).take j) ∧ Below w.heap.size w wr) (fun _ i _ => l.length - (intOf i).toNat)
  case atStart => exact ⟨0, none, 0, by omega, rfl, rfl, OwnK.nil _ _ _ _, hb1⟩
  case round =>
    clear hb1
    obtain ⟨j, am, cm, hj, rfl, rfl, ho, hb⟩ := hrel
    by_cases hlt : j < l.length
    · rcases hcase with h0 | ⟨bk, off, rfl, hbs, hcell⟩
      · rw [h0] at hlt; simp at hlt
      have hc := (hb.cell (p := ⟨bk, off + j, none⟩) hbs).trans (hcell j hlt)
      have j0 : (0 : Int) ≤ (j : Int) := by omega
      have j1 : (j : Int) < (l.length : Int) := by omega
      have HT := hide (P.xt_take hu b0 b1 j hlt)
      have hlt2 : ((P.xt l b).take j).length ≤ j := by simp; omega
      have HL : Hid (((P.xt l b).take j).length = j) := by show _ = _; simp [P.xt_len]; omega
      generalize (P.xt l b).take j = acc at ho HT HL hlt2
      generalize l.getD j 0 = t at hc HT
      have hsz := hb.size
      go_wp2_with (at_builtin; go_must (refine wp_app1K rfl _ _ 22 40 .u64 8 rfl Tryd.underlying22 Tryd.info40 (by decide) w.heap.size w.heap.size w wr _ acc (bits BinOp.xor IntKind.u64 t b) ho hb (Nat.le_refl _) rfl rfl (by omega) hsz ?_); intro v' w' hown' hb' hsz' hg'; obtain ⟨a', cap', hv'⟩ := hown'.shape; rw [hv'] at hown' ⊢; clear hv')
      go_roundw
      case rel =>
        refine ⟨j + 1, a', cap', by omega, by go_num, by simp [HL.out], ?_, hb'⟩
        rw [HT.out]
        have h2 := hown'
        rw [List.length_append, HL.out] at h2
        exact h2
      case measure => simp [intOf]; omega
    · obtain rfl : j = l.length := by omega
      have hd : decide ((l.length : Int) < (l.length : Int)) = false := by simp
      have hq : (er == er) = true := by simp
      have hq2 : (N == N) = true := by simp
      have hfull : (P.xt l b).take l.length = P.xt l b := List.take_of_length_le (by rw [P.xt_len]; exact Nat.le_refl _)
      rw [hfull] at ho
      have hs1 : Tab wr := hs.next hb
      have hrow := hr0.out.below hb (Nat.le_refl _)
      go_wp2_with fail
      refine (HPh.out _ l _ (.inl rfl) hrow hs1).mono ?_
      rintro e w2 ⟨ay, ly, cy, rfl, hb2⟩
      have ho2 := OwnK.below ho hb2 (Nat.le_refl _)
      have hs2 := hs1.next hb2
      have hb3 := Below.next hb hb2
      clear hb2
      go_wp2_with fail
      refine (HPh.out _ (P.xt l b) _ (.inr rfl) ?_ ?_).mono ?_
      · exact (OwnK.below ho2 ((Below.refl _ _).alloc (Nat.le_refl _) _) (Nat.le_refl _)).row
      · exact hs2.next ((Below.refl _ _).alloc (Nat.le_refl _) _)
      rintro e w4 ⟨az, lz, cz, rfl, hb4⟩
      obtain ⟨hx0, hx1, hb5, hsz⟩ := box2 hb4
      have hb6 := Below.next hb3 hb5
      clear hb4 hb5 hb3 hb
      rcases hN with ⟨rfl, rfl⟩ | ⟨rfl, hz | hz⟩
      · go_wp2
        go_ret
        exact ⟨rfl, below_alloc hb6 _⟩
      · have hdz : ((l.length : Int) == 0) = true := by rw [beq_iff_eq]; omega
        go_wp2
        go_ret
        exact ⟨rfl, below_alloc hb6 _⟩
      · have hdz : ((l.length : Int) == 0) = false := by rw [beq_eq_false_iff_ne]; omega
        have hdh : decide (100 < (l.length : Int)) = true := by simp; omega
        go_wp2
        go_ret
        exact ⟨rfl, below_alloc hb6 _⟩

set_option maxHeartbeats 2000000 in
/-- Between one and a hundred measures: bit for bit. -/
theorem turned_loop (v0 : Value) (l : List Int) (b : Int) (w : World) (hr : RowK .u64 w v0 l) (hu : P.U64 l) (b0 : 0 ≤ b) (b1 : b ≤ 18446744073709551615) (hs : Tab w) (h1 : 1 ≤ l.length) (h100 : l.length ≤ 100) :
    Calls Tryd.prog 8 #[v0, .int .u64 b] w fun e w' => e = .returned (.bool true) ∧ Below w.heap.size w w' := by
  obtain ⟨a, cap, rfl, ⟨hlc, hmax, hnn⟩, hcase⟩ := hr
  have hr0 : Hid (RowK .u64 w (.slice a l.length cap) l) := ⟨a, cap, rfl, ⟨hlc, hmax, hnn⟩, hcase⟩
  unfold maxLen at hmax
  have HP1 := hide (fun (v : Value) (w : World) (hr : RowK .u64 w v l) (ht : Tab w) => pack_any v l w hr hu (by omega) ht)
  have HP2 : Hid (∀ (v : Value) (w : World), RowK .u64 w v (P.xt l b) → Tab w → Calls Tryd.prog 9 #[v] w fun e w' =>
      ∃ vy, e = .returned (.tuple #[.agg #[vy, .int .i64 ((P.packT l).length : Nat)], .int .i64 0]) ∧ OwnB w' w.heap.size vy (P.pack (P.packT (P.xt l b))) ∧ Below w.heap.size w w') := by
    intro v w hr ht
    have h := pack_any v (P.xt l b) w hr (P.xt_u64 hu b0 b1) (by rw [P.xt_len]; omega) ht
    rw [P.packT_xt_len] at h
    exact h
  have hle : (P.packT l).length ≤ 16 + 78 * l.length := P.front_le l l.length l.length
  have hge : 80 ≤ (P.packT l).length := (P.front_xt l b l.length l.length h1 (Nat.le_refl _)).2.1
  have HA : Hid (∀ (k : Nat), k < (P.packT l).length → ∀ (v : Value) (w : World), RowB w v (P.pack (P.packT l)) → Calls Tryd.prog 22 #[.agg #[v, .int .i64 (P.packT l).length], .int .i64 k, .int .i64 1] w fun e w' => e = .returned (.tuple #[.int .u64 (P.val (((P.packT l).drop k).take 1) : Nat), .int .i64 0]) ∧ Below w.heap.size w w') :=
    fun k hk v w hr => pull_ok v (P.packT l) k 1 w hr (by omega) (by decide) (by omega)
  have HB : Hid (∀ (k : Nat), 80 ≤ k → k < (P.packT l).length → ∀ (v : Value) (w : World), RowB w v (P.pack (P.packT (P.xt l b))) → Calls Tryd.prog 22 #[.agg #[v, .int .i64 (P.packT l).length], .int .i64 k, .int .i64 1] w fun e w' => e = .returned (.tuple #[.int .u64 (P.val (((P.packT l).drop k).take 1) : Nat), .int .i64 0]) ∧ Below w.heap.size w w') := by
    intro k hk0 hk v w hr
    have hl2 := P.packT_xt_len l b
    have h := pull_ok v (P.packT (P.xt l b)) k 1 w hr (by omega) (by decide) (by omega)
    rw [hl2, P.packT_xt_bit l b k h1 hk0] at h
    exact h
  generalize P.packT (P.xt l b) = ys at HP2 HB
  generalize P.packT l = xs at HP1 HP2 HA HB hle hge
  go_enter Tryd.func8, Tryd.ntmps8
  go_wp2_with (go_at_call 18; go_must (refine (xors_any _ hs).mono ?_); rintro e w1 ⟨rfl, hb1⟩)
  go_loopw [5, 21] (fun m i wr => ∃ (j : Nat) (am : Option Addr) (cm : Nat), j ≤ l.length ∧ i = .int .i64 j ∧ m = .slice am j cm ∧ OwnK 40 .u64 wr w.heap.size (.slice am j cm) ((P.xt l b).take j) ∧ Below w.heap.size w wr) (fun _ i _ => l.length - (intOf i).toNat)
  case atStart => exact ⟨0, none, 0, by omega, rfl, rfl, OwnK.nil _ _ _ _, hb1⟩
  case round =>
    clear hb1
    obtain ⟨j, am, cm, hj, rfl, rfl, ho, hb⟩ := hrel
    by_cases hlt : j < l.length
    · rcases hcase with h0 | ⟨bk, off, rfl, hbs, hcell⟩
      · rw [h0] at hlt; simp at hlt
      have hc := (hb.cell (p := ⟨bk, off + j, none⟩) hbs).trans (hcell j hlt)
      have j0 : (0 : Int) ≤ (j : Int) := by omega
      have j1 : (j : Int) < (l.length : Int) := by omega
      have HT := hide (P.xt_take hu b0 b1 j hlt)
      have hlt2 : ((P.xt l b).take j).length ≤ j := by simp; omega
      have HL : Hid (((P.xt l b).take j).length = j) := by show _ = _; simp [P.xt_len]; omega
      generalize (P.xt l b).take j = acc at ho HT HL hlt2
      generalize l.getD j 0 = t at hc HT
      have hsz := hb.size
      go_wp2_with (at_builtin; go_must (refine wp_app1K rfl _ _ 22 40 .u64 8 rfl Tryd.underlying22 Tryd.info40 (by decide) w.heap.size w.heap.size w wr _ acc (bits BinOp.xor IntKind.u64 t b) ho hb (Nat.le_refl _) rfl rfl (by omega) hsz ?_); intro v' w' hown' hb' hsz' hg'; obtain ⟨a', cap', hv'⟩ := hown'.shape; rw [hv'] at hown' ⊢; clear hv')
      go_roundw
      case rel =>
        refine ⟨j + 1, a', cap', by omega, by go_num, by simp [HL.out], ?_, hb'⟩
        rw [HT.out]
        have h2 := hown'
        rw [List.length_append, HL.out] at h2
        exact h2
      case measure => simp [intOf]; omega
    · obtain rfl : j = l.length := by omega
      have hd : decide ((l.length : Int) < (l.length : Int)) = false := by simp
      have hfull : (P.xt l b).take l.length = P.xt l b := List.take_of_length_le (by rw [P.xt_len]; exact Nat.le_refl _)
      rw [hfull] at ho
      have hs1 : Tab wr := hs.next hb
      have hrow := hr0.out.below hb (Nat.le_refl _)
      clear hlt hcase
      go_wp2_with fail
      refine (HP1.out _ _ hrow hs1).mono ?_
      rintro e w2 ⟨vx, rfl, hox, hb2⟩
      obtain ⟨ax, cx, hvx⟩ := hox.shp
      rw [hvx] at hox ⊢
      clear hvx
      have ho2 := OwnK.below ho hb2 (Nat.le_refl _)
      have hs2 := hs1.next hb2
      have hb3 := Below.next hb hb2
      clear hb2 hrow
      go_wp2_with fail
      have hX3 := B2.new w2 (.slice ax (P.pack xs).length cx) (.int .i64 xs.length) 25
      have hba := (Below.refl w2.heap.size w2).alloc (Nat.le_refl _) (.cells #[.slice ax (P.pack xs).length cx, .int .i64 xs.length] 25)
      have ho3 := OwnK.below ho2 hba (Nat.le_refl _)
      have hox3 := OwnB.below hox hba (Nat.le_refl _)
      have hs3 := hs2.next hba
      have hb4 := below_alloc hb3 (.cells #[.slice ax (P.pack xs).length cx, .int .i64 xs.length] 25)
      generalize World.alloc w2 _ = W3 at hX3 ho3 hox3 hs3 hb4 ⊢
      refine (HP2.out _ _ ho3.row hs3).mono ?_
      rintro e w5 ⟨vz, rfl, hoz, hb5⟩
      obtain ⟨az, cz, hvz⟩ := hoz.shp
      rw [hvz] at hoz ⊢
      clear hvz
      have hX5 := hX3.next hb5
      have hox5 := OwnB.below hox3 hb5 (Nat.le_refl _)
      have hb6 := Below.next hb4 hb5
      have hY6 := B2.new w5 (.slice az (P.pack ys).length cz) (.int .i64 xs.length) 25
      have hbz := (Below.refl w5.heap.size w5).alloc (Nat.le_refl _) (.cells #[.slice az (P.pack ys).length cz, .int .i64 xs.length] 25)
      have hX6 := hX5.next hbz
      have hox6 := OwnB.below hox5 hbz (Nat.le_refl _)
      have hoz6 := OwnB.below hoz hbz (Nat.le_refl _)
      have hb7 := below_alloc hb6 (.cells #[.slice az (P.pack ys).length cz, .int .i64 xs.length] 25)
      clear hb5 hX3 hox3 hX5 hox5 hb6 hbz hba ho3 ho2 ho hox hoz hs3 hs2 hb4 hb3 HP1 HP2
      have hdz : ((l.length : Int) == 0) = false := by rw [beq_eq_false_iff_ne]; omega
      have hdh : decide (100 < (l.length : Int)) = false := by simp; omega
      have hqq : ((xs.length : Int) != (xs.length : Int)) = false := by simp
      obtain ⟨x0, x1, xf0, xf1⟩ := id hX6
      obtain ⟨y0, y1, yf0, yf1⟩ := id hY6
      go_wp2_with fail
      clear x0 x1 xf0 xf1 y0 y1 yf0 yf1
      generalize World.alloc w5 _ = W6 at hX6 hY6 hox6 hoz6 hb7 ⊢
      go_loopw [12] (fun i wr => ∃ k : Nat, 80 ≤ k ∧ k ≤ xs.length ∧ i = .int .i64 k ∧ Below W6.heap.size W6 wr) (fun i _ => xs.length - (intOf i).toNat)
      case atStart => exact ⟨80, by omega, hge, rfl, Below.refl _ _⟩
      case round =>
        obtain ⟨k, hk0, hk1, rfl, hbr⟩ := hrel
        have hX := hX6.next hbr
        have hY := hY6.next hbr
        have hox := OwnB.below hox6 hbr (Nat.le_refl _)
        have hoz := OwnB.below hoz6 hbr (Nat.le_refl _)
        obtain ⟨x0, x1, xf0, xf1⟩ := id hX
        obtain ⟨y0, y1, yf0, yf1⟩ := id hY
        by_cases hkl : k < xs.length
        · have k1 : (k : Int) < (xs.length : Int) := by omega
          have HA1 := hide (HA.out k hkl)
          have HB1 := hide (HB.out k hk0 hkl)
          generalize P.val ((xs.drop k).take 1) = x at HA1 HB1
          have hqx : ((x : Int) != (x : Int)) = false := by simp
          clear HA HB
          go_wp2_with (first
            | (go_at_call 22; refine (HA1.out _ _ hox.row).mono ?_; rintro e w7 ⟨rfl, hb8⟩; have hY7 := hY.next hb8; have hoz7 := OwnB.below hoz hb8 (Nat.le_refl _); have hb9 := Below.next hbr hb8; obtain ⟨y0', y1', yf0', yf1'⟩ := id hY7; clear hox hoz HA1)
            | (go_at_call 22; refine (HB1.out _ _ hoz7.row).mono ?_; rintro e w9 ⟨rfl, hb10⟩; have hb11 := Below.next hb9 hb10)
            | (go_at_call 23; go_must (refine (good_zeros _ 2 _ (row_two_zeros _ _)).mono ?_); rintro e wa ⟨rfl, rfl⟩))
          go_roundw
          case rel => exact ⟨k + 1, by omega, by omega, by go_num, below_alloc hb11 _⟩
          case measure => simp [intOf]; omega
        · obtain rfl : k = xs.length := by omega
          have hdk : decide ((xs.length : Int) < (xs.length : Int)) = false := by simp
          clear HA HB
          go_wp2
          go_ret
          exact ⟨rfl, Below.next hb7 hbr⟩
theorem walk_XorTurned (v0 : Value) (l : List Int) (b : Int) (w : World) (hr : RowK .u64 w v0 l) (hi : ∀ x ∈ l, 0 ≤ x ∧ x ≤ 18446744073709551615) (hlen : l.length * 8 ≤ 140737488351232) (h1 : 0 ≤ b) (h1' : b ≤ 18446744073709551615) (hs : Tab w) :
    Calls Tryd.prog 8 #[v0, .int .u64 b] w fun e w' => e = .returned (.bool true) ∧ Below w.heap.size w w' := by
  by_cases hn : l.length ≤ 1000
  · by_cases hl : 1 ≤ l.length ∧ l.length ≤ 100
    · exact turned_loop v0 l b w hr hi h1 h1' hs hl.1 hl.2
    · refine turned_end v0 l b w hr hi h1 h1' hlen hs (P.packT l).length 0 (.inr ⟨rfl, by omega⟩) fun v l' w' hl' hr' hs' => ?_
      have e : (P.packT l').length = (P.packT l).length ∧ P.U64 l' ∧ l'.length ≤ 1000 := by
        rcases hl' with rfl | rfl
        · exact ⟨rfl, hi, hn⟩
        · exact ⟨P.packT_xt_len l b, P.xt_u64 hi h1 h1', by rw [P.xt_len]; exact hn⟩
      refine (pack_any v l' w' hr' e.2.1 e.2.2 hs').mono ?_
      rintro e' w2 ⟨vy, rfl, hown, hb⟩
      obtain ⟨ay, cy, rfl⟩ := hown.shp
      exact ⟨ay, _, cy, by rw [e.1], hb⟩
  · refine turned_end v0 l b w hr hi h1 h1' hlen hs 0 2 (.inl ⟨rfl, rfl⟩) fun v l' w' hl' hr' hs' => ?_
    have e : 1000 < l'.length := by
      rcases hl' with rfl | rfl
      · omega
      · rw [P.xt_len]; omega
    refine (pack_large v l' w' hr' e).mono ?_
    rintro e' w2 ⟨rfl, hb⟩
    exact ⟨none, 0, 0, rfl, hb⟩

theorem laid_met_XorTurned (os : Os) : laidMet Tryd.prog Rows.xorTurnedRow.laid ((laidWorld os).forCall (fun _ _ => 0) ⟨#[], #[.slice none 0 0, .int .u64 0], []⟩).memory := laidMet_of_run' 8 (by kernel_rfl) (by kernel_rfl)
theorem reads_XorTurned (os : Os) {H : Type} (enc : TypeId × Value → H) : ∃ places, DataW.whole enc Tryd.prog ((laidWorld os).forCall (fun _ _ => 0) ⟨#[], #[.slice none 0 0, .int .u64 0], []⟩).memory Tryd.f8.params.toList Rows.xorTurnedSpec.vars false (#[.slice none 0 0, .int .u64 0] : Array Value).toList 8 = some ([.nil, .lit (.int .u64 0)], [], places) := ⟨[], by kernel_rfl⟩
set_option maxRecDepth 100000 in
theorem lifted_XorTurned (os : Os) (started : os.Started) (H : Type) (enc : TypeId × Value → H) (F : Stop.Interp) :
    ReturnsInHanded {} Tryd.checked os 8 .any ((OpenSpec.ofChange Rows.xorTurnedSpec).preRow enc Tryd.prog Tryd.f8 Rows.xorTurnedRow.domain false Rows.xorTurnedRow.laid) (((OpenSpec.ofChange Rows.xorTurnedSpec).at F).post enc Tryd.prog Tryd.f8 false true false false) := by
  obtain ⟨places, hx⟩ := reads_XorTurned os enc
  refine returnsInHanded_of_row (C := Tryd.checked) (s := (OpenSpec.ofChange Rows.xorTurnedSpec)) own started (by kernel_rfl) Tryd.func8
    (witness_row_at (enc := enc) (C := Tryd.checked) false (laidWorld os) #[.slice none 0 0, .int .u64 0] rfl (by kernel_rfl) (by kernel_rfl) (by kernel_rfl)
      (OpenSpec.preRow_of_cond 8 hx (by kernel_rfl) (fun k hk => by cases hk) (by kernel_rfl) (laid_met_XorTurned os))) ?_
  intro W base args ds gs before hval0 hW hcnd hk00 hsz0 hL _ _
  have hLd := laid_of hL
  have hsz : (DataW.weightsEach Tryd.prog (Tryd.f8.params.toList ++ Rows.xorTurnedSpec.plain.varTypes Tryd.prog) (ds ++ gs)).all (· ≤ reachBytes) = true := hsz0
  have hval : ∀ (j : Nat) t v, Tryd.f8.params[j]? = some t → args[j]? = some v → Value.okWide Tryd.prog W .any base t v := hval0
  have hW' := hW
  obtain ⟨p, q, hA0, hV, rfl, hfz, hnd⟩ := hW
  have hA : DataW.TrodAll enc Tryd.prog W 0 (fun _ => true) true Tryd.f8.params.toList args.toList ds p := hA0
  rw [Tryd.params8] at hA hval hsz
  obtain ⟨v0, vs0, d0, ds0, p0, q0, hargs, rfl, rfl, h0, r0⟩ := trodAll_cons hA
  obtain ⟨v1, vs1, d1, ds1, p1, q1, rfl, rfl, rfl, h1, r1⟩ := trodAll_cons r0
  obtain ⟨rfl, rfl, rfl⟩ := trodAll_nil r1
  obtain rfl : args = #[v0, v1] := by cases args; simp_all
  obtain ⟨rfl, rfl⟩ := trodVars_none hV
  have k0 := h0
  have lt0 : ∀ x ∈ p0, x.block < W.heap.size := by obtain ⟨m, hm⟩ := k0; exact DataW.trod_lt m _ _ _ hm
  obtain ⟨s0, len0, cap0, rfl⟩ := okWide_slice Tryd.underlying22 (hval 0 22 v0 rfl rfl)
  obtain ⟨l0, row0, wf0, sh0⟩ := open_row Tryd.underlying22 Tryd.underlying40 cells40 h0
  have rc0 := row_reach hsz (j := 0) (t := 22) rfl rfl Tryd.underlying22 sh0
  rw [bytes40] at rc0
  have k1 := h1
  have lt1 : ∀ x ∈ p1, x.block < W.heap.size := by obtain ⟨m, hm⟩ := k1; exact DataW.trod_lt m _ _ _ hm
  obtain ⟨a1, rfl, rfl, rfl, w1⟩ := open_int Tryd.underlying40 (hval 1 40 v1 rfl rfl) h1
  have b1 := bounds_u64 w1
  clear hA0 hval0
  refine (walk_XorTurned (.slice s0 len0 cap0) l0 a1 W row0 (fun x hx => bounds_u64 (wf0 x hx)) rc0 b1.1 b1.2 hLd).mono fun e W' ⟨he, bel⟩ => ?_
  subst he
  exact ⟨_, rfl, _, _, _, [], _, [], hW', trodAll_mk1 (shut_bool Tryd.underlying4 _), (trodAll_cons_mk (Below.trod laidOut (by kernel_rfl) (of_decide_eq_true (by kernel_rfl)) k0 bel lt0) (trodAll_cons_mk (Below.trod laidOut (by kernel_rfl) (of_decide_eq_true (by kernel_rfl)) k1 bel lt1) trodAll_mk0)), rfl, bel.frame _, fun h => by cases h⟩

theorem said_XorTurned : Rows.XorTurnedSaid :=
  OpenClaim.holds_of_cond 8 Tryd.f8 rfl rfl rfl rfl rfl rfl rfl ⟨rfl, rfl, rfl, rfl, rfl⟩ rfl rfl rfl rfl rfl (by kernel_rfl) Tryd.func8 (by kernel_rfl)
    (of_decide_eq_true (by kernel_rfl)) (by unfold Func.isWrapper; first | (rw [if_pos (by decide +kernel)]; kernel_rfl) | (rw [if_neg (by decide +kernel)]; exact ⟨rfl, rfl⟩))
    (fun os started H enc _ F => by rw [OpenClaim.pre_eq_preRow]; exact lifted_XorTurned os started H enc F)
theorem plain_XorTurned (f : FuncId) (fn : Func) (hf : Tryd.pinned.checked.prog.funcNamed "gaugehouse/gaugehousekeep.XorTurned" = some f) (hfn : Tryd.pinned.checked.prog.funcs[f]? = some fn) :
    false = Tryd.pinned.checked.prog.looks [] ∧ ∀ (j : Nat) t, fn.params[j]? = some t → Tryd.pinned.checked.prog.wantsStandIn t = false := by
  obtain rfl : f = 8 := Option.some.inj ((show Tryd.prog.funcNamed "gaugehouse/gaugehousekeep.XorTurned" = some 8 by kernel_rfl).symm.trans hf) |>.symm
  obtain rfl : fn = Tryd.f8 := (Option.some.inj (Tryd.func8.symm.trans hfn)).symm
  refine ⟨by kernel_rfl, fun j t ht => ?_⟩
  rw [Tryd.params8] at ht
  have hm : t ∈ [22, 40] := by simpa using Array.mem_of_getElem? ht
  have hall : ([22, 40].all fun u => !Tryd.prog.wantsStandIn u) = true := by kernel_rfl
  exact (show Tryd.prog.wantsStandIn t = false by simpa using List.all_eq_true.1 hall t hm)
theorem proved_XorTurned : Rows.XorTurnedCardSaid :=
  Claim7.holds_tied_plain_at .later [] _ _ _ _ said_XorTurned (fun _ h => by cases h) (by kernel_rfl) (fun _ h => by cases h) xorTurned_row_tie rfl ⟨rfl, rfl⟩ (by kernel_rfl) rfl plain_XorTurned (by kernel_rfl)
#print axioms proved_XorTurned
end Go.Proofs.YteohlkpejdjenaaDoor
