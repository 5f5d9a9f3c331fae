/- What bits.Push answers. -/
import Derived.Test.YteohlkpejdjenaaDoorPull
import Derived.Deep.RegionHeld3
import Derived.Deep.DeepCutAuto
import Derived.Laws.CopyOwn
import Derived.Deep.OwnRows
import Derived.Laws.Tables
namespace Go.Proofs.YteohlkpejdjenaaDoor
open Go.RowKit
set_option linter.unusedVariables false

abbrev noBits : Value := .agg #[.slice none 0 0, .int .i64 0]
/-- Two boxes of two words each that the call has made, behind a call that leaves old memory alone. -/
theorem box4 {w w2 : World} {c0 c1 d0 d1 : Value} {t t' : TypeId} (hb : Below ((w.alloc (.cells #[c0, c1] t)).alloc (.cells #[d0, d1] t')).heap.size ((w.alloc (.cells #[c0, c1] t)).alloc (.cells #[d0, d1] t')) w2) :
    w2.cell? ⟨w.heap.size, 0, none⟩ = some c0 ∧ w2.cell? ⟨w.heap.size, 1, none⟩ = some c1 ∧ w2.cell? ⟨w.heap.size + 1, 0, none⟩ = some d0 ∧ w2.cell? ⟨w.heap.size + 1, 1, none⟩ = some d1 ∧
      w2.frozen? ⟨w.heap.size + 1, 0, none⟩ = false ∧ w2.frozen? ⟨w.heap.size + 1, 1, none⟩ = false ∧ Below w.heap.size w w2 ∧ w.heap.size + 1 < w2.heap.size := by
  have h0 := hb.cell (p := ⟨w.heap.size, 0, none⟩) (by simp; omega)
  have h1 := hb.cell (p := ⟨w.heap.size, 1, none⟩) (by simp; omega)
  have h2 := hb.cell (p := ⟨w.heap.size + 1, 0, none⟩) (by simp)
  have h3 := hb.cell (p := ⟨w.heap.size + 1, 1, none⟩) (by simp)
  have h4 := hb.frozen (p := ⟨w.heap.size + 1, 0, none⟩) (by simp)
  have h5 := hb.frozen (p := ⟨w.heap.size + 1, 1, none⟩) (by simp)
  have hs := hb.size
  refine ⟨h0.trans (by simp), h1.trans (by simp), h2.trans (by simp), h3.trans (by simp), h4.trans (by simp), h5.trans (by simp), (((Below.refl _ _).alloc (Nat.le_refl _) _).alloc (by simp) _).trans (hb.mono (by simp; omega)), ?_⟩
  simp at hs; omega
theorem row_two {w : World} {v : Value} {l : List Int} (h : RowB w v l) (o1 o2 : Obj) : RowB ((w.alloc o1).alloc o2) v l :=
  h.below (((Below.refl _ _).alloc (Nat.le_refl _) _).alloc (by simp) _) (Nat.le_refl _)

theorem push_bad (v : Value) (l : List Int) (n u k : Int) (w : World) (hr : RowB w v l) (hbt : Byt l) (n0 : -9223372036854775808 ≤ n) (n1 : n ≤ 9223372036854775807) (hok : ¬ P.OkB l n) :
    Calls Tryd.prog 39 #[.agg #[v, .int .i64 n], .int .u64 u, .int .i64 k] w fun e w' => e = .returned (.tuple #[noBits, .int .i64 4]) ∧ Below w.heap.size w w' := by
  go_enter Tryd.func39, Tryd.ntmps39
  go_wp2_with (go_at_call 20; go_must (refine (check_bad _ l n _ (row_two hr _ _) hbt n0 n1 hok).mono ?_); rintro e w2 ⟨rfl, hb2⟩; obtain ⟨hc0, hc1, hd0, hd1, hf0, hf1, hb, hsz⟩ := box4 hb2; clear hb2)
  exact bodyPost_ret (v := .tuple #[noBits, .int .i64 4]) (by simp [results, Tryd.results39, go_sem, hd0, hd1]) rfl ⟨rfl, (hb.setCell (by simp) _).setCell (by simp) _⟩
theorem push_width (v : Value) (l : List Int) (n u k : Int) (w : World) (hr : RowB w v l) (hbt : Byt l) (n1 : n ≤ 9223372036854775807) (hok : P.OkB l n) (hk : k < 0 ∨ 64 < k) :
    Calls Tryd.prog 39 #[.agg #[v, .int .i64 n], .int .u64 u, .int .i64 k] w fun e w' => e = .returned (.tuple #[noBits, .int .i64 1]) ∧ Below w.heap.size w w' := by
  go_enter Tryd.func39, Tryd.ntmps39
  go_wp2_with (first
    | (go_at_call 20; go_must (refine (check_ok _ l n _ (row_two hr _ _) hbt n1 hok).mono ?_); rintro e w2 ⟨rfl, hb2⟩; obtain ⟨hc0, hc1, hd0, hd1, hf0, hf1, hb, hsz⟩ := box4 hb2; clear hb2)
    | (go_at_call 36; refine (isWidth_no _ _ hk).mono ?_; rintro e w' ⟨rfl, rfl⟩))
  exact bodyPost_ret (v := .tuple #[noBits, .int .i64 1]) (by simp [results, Tryd.results39, go_sem, hd0, hd1]) rfl ⟨rfl, (hb.setCell (by simp) _).setCell (by simp) _⟩
theorem push_fits (v : Value) (l : List Int) (n u k : Int) (w : World) (hr : RowB w v l) (hbt : Byt l) (n1 : n ≤ 9223372036854775807) (hok : P.OkB l n) (h0 : 0 ≤ k) (h1 : k ≤ 64) (u0 : 0 ≤ u) (u1 : u ≤ 18446744073709551615) (hf : fitsB u k = false) :
    Calls Tryd.prog 39 #[.agg #[v, .int .i64 n], .int .u64 u, .int .i64 k] w fun e w' => e = .returned (.tuple #[noBits, .int .i64 1]) ∧ Below w.heap.size w w' := by
  go_enter Tryd.func39, Tryd.ntmps39
  go_wp2_with (first
    | (go_at_call 20; go_must (refine (check_ok _ l n _ (row_two hr _ _) hbt n1 hok).mono ?_); rintro e w2 ⟨rfl, hb2⟩; obtain ⟨hc0, hc1, hd0, hd1, hf0, hf1, hb, hsz⟩ := box4 hb2; clear hb2)
    | (go_at_call 36; refine (isWidth_yes _ _ h0 h1).mono ?_; rintro e w' ⟨rfl, rfl⟩)
    | (go_at_call 48; refine (fits_any _ _ _ u0 u1 h0 h1).mono ?_; rintro e w' ⟨rfl, rfl⟩))
  exact bodyPost_ret (v := .tuple #[noBits, .int .i64 1]) (by simp [results, Tryd.results39, go_sem, hd0, hd1]) rfl ⟨rfl, (hb.setCell (by simp) _).setCell (by simp) _⟩
theorem push_large (v : Value) (l : List Int) (n u k : Int) (w : World) (hr : RowB w v l) (hbt : Byt l) (n1 : n ≤ 9223372036854775807) (hok : P.OkB l n) (h0 : 0 ≤ k) (h1 : k ≤ 64) (u0 : 0 ≤ u) (u1 : u ≤ 18446744073709551615) (hf : fitsB u k = true) (hl : 80000 - k < n) :
    Calls Tryd.prog 39 #[.agg #[v, .int .i64 n], .int .u64 u, .int .i64 k] w fun e w' => e = .returned (.tuple #[noBits, .int .i64 2]) ∧ Below w.heap.size w w' := by
  go_enter Tryd.func39, Tryd.ntmps39
  go_wp2_with (first
    | (go_at_call 20; go_must (refine (check_ok _ l n _ (row_two hr _ _) hbt n1 hok).mono ?_); rintro e w2 ⟨rfl, hb2⟩; obtain ⟨hc0, hc1, hd0, hd1, hf0, hf1, hb, hsz⟩ := box4 hb2; clear hb2)
    | (go_at_call 36; refine (isWidth_yes _ _ h0 h1).mono ?_; rintro e w' ⟨rfl, rfl⟩)
    | (go_at_call 48; refine (fits_any _ _ _ u0 u1 h0 h1).mono ?_; rintro e w' ⟨rfl, rfl⟩))
  exact bodyPost_ret (v := .tuple #[noBits, .int .i64 2]) (by simp [results, Tryd.results39, go_sem, hd0, hd1]) rfl ⟨rfl, (hb.setCell (by simp) _).setCell (by simp) _⟩
/-- Where y and its bytes have been made, in whatever order. -/
def Made (T : Nat) (N : Int) (w' : World) (y : Value) (wc : World) : Prop := ∃ yb sb : Nat, y = .pointer (some ⟨yb, 0, none⟩) ∧ wc.cell? ⟨yb, 0, none⟩ = some (.slice (some ⟨sb, 0, none⟩) T T) ∧ wc.cell? ⟨yb, 1, none⟩ = some (.int .i64 N) ∧
    BlkB wc sb (List.replicate T 0) ∧ yb ≠ sb ∧ w'.heap.size ≤ yb ∧ w'.heap.size ≤ sb ∧ Below w'.heap.size w' wc
theorem madeCells_zero (T : Nat) : madeCells #[.int .u8 0] T = ((List.replicate T (0 : Int)).map (Value.int .u8)).toArray := by
  unfold madeCells
  apply Array.ext
  · simp
  · intro i h1 h2; simp [Nat.mod_one]
theorem made1 (T : Nat) (N : Int) (w' : World) : Made T N w' (.pointer (some ⟨w'.heap.size + 1, 0, none⟩))
    ((w'.alloc (.cells (madeCells #[.int .u8 0] T) 5)).alloc (.cells #[.slice (some ⟨w'.heap.size, 0, none⟩) T T, .int .i64 N] 25)).drew := by
  refine ⟨w'.heap.size + 1, w'.heap.size, rfl, by simp, by simp, ?_, by omega, by omega, by omega, Below.drew (((Below.refl _ _).alloc (Nat.le_refl _) _).alloc (by simp) _)⟩
  unfold BlkB
  rw [← madeCells_zero]
  exact (Below.heap_alloc _ _ _ (by simp)).trans (heap_alloc_new w' _)
theorem made2 (T : Nat) (N : Int) (w' : World) : Made T N w' (.pointer (some ⟨w'.heap.size, 0, none⟩))
    ((w'.alloc (.cells #[.slice (some ⟨w'.heap.size + 1, 0, none⟩) T T, .int .i64 N] 25)).alloc (.cells (madeCells #[.int .u8 0] T) 5)).drew := by
  refine ⟨w'.heap.size, w'.heap.size + 1, rfl, by simp, by simp, ?_, by omega, by omega, by omega, Below.drew (((Below.refl _ _).alloc (Nat.le_refl _) _).alloc (by simp) _)⟩
  unfold BlkB
  rw [← madeCells_zero]
  have := heap_alloc_new (w'.alloc (.cells #[.slice (some ⟨w'.heap.size + 1, 0, none⟩) T T, .int .i64 N] 25)) (.cells (madeCells #[.int .u8 0] T) 5)
  have hs : (w'.alloc (.cells #[.slice (some ⟨w'.heap.size + 1, 0, none⟩) T T, .int .i64 N] 25)).heap.size = w'.heap.size + 1 := by simp
  rw [hs] at this
  exact this

/-- 'copy(d, s)' from the front of a block of bytes of the call's own. -/
theorem run_copy (w : World) (g : Nat) (cur l : List Int) (vs : Value) (ty : TypeId) (hg : BlkB w g cur) (hr : RowB w vs l) (hle : l.length ≤ cur.length) :
    ∃ w', (Builtin.copy_ #[23, 23] ty #[.slice (some ⟨g, 0, none⟩) cur.length cur.length, vs]).run Tryd.prog w = .ok (.int .i64 (l.length : Nat)) w' ∧ BlkB w' g (l ++ cur.drop l.length) ∧ Only g w w' := by
  obtain ⟨ao, cap, rfl, ⟨hlc, hcm, hnn⟩, hcase⟩ := hr
  have hsz : (Tryd.prog.info? 5).map (·.size) = some 1 := by kernel_rfl
  rcases hcase with h0 | ⟨b, off, rfl, hbs, hcell⟩
  · subst h0
    exact ⟨w, run_copy_none w _ _ ty 5 _ _ _ _ _ _ Tryd.underlying23 hsz (Nat.zero_min _), hg, Only.refl _ _⟩
  · have hlen : (l.map (Value.int .u8)).length = Nat.min l.length cur.length := by simp [Nat.min_def]; omega
    have h := run_copy_row (P := Tryd.prog) w 23 23 ty 5 g 0 cur.length cur.length ⟨b, off, none⟩ l.length cap _ _ (l.map (Value.int .u8)) Tryd.underlying23 hsz hg hlen (by
      intro j v hj
      have hjl : j < l.length := by
        rcases Nat.lt_or_ge j l.length with h | h
        · exact h
        · rw [List.getElem?_eq_none (by simpa using h)] at hj; cases hj
      have ea : (Addr.add ⟨b, off, none⟩ j) = ⟨b, off + j, none⟩ := by
        unfold Addr.add; split
        · rename_i h; subst h; rfl
        · rfl
      rw [ea, hcell j hjl]
      simp [List.getElem?_eq_getElem hjl] at hj
      subst hj
      simp [List.getD_eq_getElem?_getD, List.getElem?_eq_getElem hjl]) (by simp; omega) (by
      intro v hv; obtain ⟨z, _, rfl⟩ := List.mem_map.1 hv; rfl)
    rw [List.length_map] at h
    refine ⟨_, h, ?_, ⟨rfl, rfl, rfl, by simp, fun k hk => setRow_other w g k _ hk⟩⟩
    unfold BlkB
    rw [setRow_heap w g _ _ _ _ hg]
    simp

theorem blk_bit {w : World} {g T : Nat} {xs : List Bool} (h : BlkB w g (P.packTo T xs)) (ht : xs.length / 8 < T) :
    BlkB (w.setCell ⟨g, xs.length / 8, none⟩ (.int .u8 (bits BinOp.or IntKind.u8 (P.byteAt xs (xs.length / 8) : Int) (128 / 2 ^ (xs.length % 8))))).drew g (P.packTo T (xs ++ [true])) := by
  have h2 := h.set (xs.length / 8) (bits BinOp.or IntKind.u8 (P.byteAt xs (xs.length / 8) : Int) (128 / 2 ^ (xs.length % 8)))
  rw [P.packTo_snoc1 T xs ht, ← P.or_bit xs, ← P.shr128 _ (Nat.mod_lt _ (by decide))]
  exact h2
set_option maxHeartbeats 2000000 in
theorem push_ok (v : Value) (bs : List Bool) (u m : Nat) (w : World) (hr : RowB w v (P.pack bs)) (h1 : m ≤ 64) (u1 : (u : Int) ≤ 18446744073709551615) (hf : u < 2 ^ m) (hl : bs.length + m ≤ 80000) :
    Calls Tryd.prog 39 #[.agg #[v, .int .i64 bs.length], .int .u64 u, .int .i64 m] w fun e w' =>
      ∃ vy, e = .returned (.tuple #[.agg #[vy, .int .i64 ((bs.length + m : Nat) : Int)], .int .i64 0]) ∧ OwnB w' w.heap.size vy (P.pack (bs ++ P.ofVal u m)) ∧ Below w.heap.size w w' := by
  have hbt : Byt (P.pack bs) := P.pack_byt _ bs
  have hok := P.pack_ok bs
  have hfb : fitsB u m = true := by
    unfold fitsB; rw [decide_eq_true_eq, Int.toNat_natCast]; exact_mod_cast hf
  have hg : decide (80000 - (m : Int) < (bs.length : Int)) = false := by simp; omega
  obtain ⟨T, hT⟩ : ∃ T : Nat, T = (bs.length + m + 7) / 8 := ⟨_, rfl⟩
  have HT : Hid (((bs.length : Int) + (m : Int) + 7) / 8 = (T : Int)) := by show _ = _; omega
  have hT1 : 8 * T ≤ bs.length + m + 7 := by omega
  have hT2 : bs.length + m ≤ 8 * T := by omega
  have hTb : Hid (P.bytesN (bs.length + m) = T) := by show _ = _; unfold P.bytesN; omega
  clear hT
  go_enter Tryd.func39, Tryd.ntmps39
  go_wp2_with (first
    | (go_at_call 20; go_must (refine (check_ok _ _ _ _ (row_two hr _ _) hbt (by omega) hok).mono ?_); rintro e w2 ⟨rfl, hb2⟩; obtain ⟨hc0, hc1, hd0, hd1, hf0, hf1, hb, hsz⟩ := box4 hb2; clear hb2)
    | (go_at_call 36; refine (isWidth_yes _ _ (by omega) (by omega)).mono ?_; rintro e w' ⟨rfl, rfl⟩)
    | (go_at_call 48; refine (fits_any _ _ _ (by omega) u1 (by omega) (by omega)).mono ?_; rw [hfb]; rintro e w' ⟨rfl, rfl⟩))
  have hmk := fun w => run_make_row' (P := Tryd.prog) 23 5 (.int .u8 0) 1 Tryd.underlying23 Tryd.info5 rfl .i64 .i64 T (by omega) (by omega) w
  have hwr : IntKind.i64.wrap ((bs.length : Int) + (m : Int)) = (bs.length : Int) + (m : Int) := by rw [IntKind.wrap_i64]; omega
  go_cut [9] (fun y wc => Made T ((bs.length : Int) + (m : Int)) w' y wc)
  case first =>
    go_region_held3 (fun wx => wx.cell? ⟨w.heap.size, 1, none⟩ = some (.int .i64 bs.length)) (go_keep) (first
      | (go_at_call 34; refine (bytesFor_any _ _ (by omega) (by omega)).mono ?_; rw [HT.out]; rintro e wz ⟨rfl, rfl⟩))
    all_goals go_wp2
    all_goals go_meet
    all_goals first | exact made1 _ _ _ | exact made2 _ _ _
  case rest =>
    obtain ⟨yb, sb, rfl, hy0, hy1, hblk, hne, hyb, hsb, hbc⟩ := hcut
    clear hmk hwr
    have hrc : RowB wc v (P.pack bs) := hr.below (hb.trans (hbc.mono (by omega))) (Nat.le_refl _)
    have hcl : (P.pack bs).length ≤ (List.replicate T (0 : Int)).length := by rw [P.pack_len]; simp [P.bytesN]; omega
    have hbw : Below w.heap.size w wc := hb.trans (hbc.mono (by omega))
    have hbs : w.heap.size ≤ sb := by omega
    have b0 := (hbc.cell (p := ⟨w.heap.size, 0, none⟩) (by simp; omega)).trans hc0
    have b1 := (hbc.cell (p := ⟨w.heap.size, 1, none⟩) (by simp; omega)).trans hc1
    obtain ⟨w3, hcopy, hk3, ho3⟩ := run_copy wc sb (List.replicate T 0) (P.pack bs) v 3 hblk hrc hcl
    rw [List.length_replicate] at hcopy
    rw [List.drop_replicate, P.pack_len, P.packTo_zero T bs (by unfold P.bytesN; omega)] at hk3
    have y0 := (ho3.cell (p := ⟨yb, 0, none⟩) hne).trans hy0
    have y1 := (ho3.cell (p := ⟨yb, 1, none⟩) hne).trans hy1
    have e0 := (ho3.cell (p := ⟨w.heap.size, 1, none⟩) (by simp; omega)).trans b1
    have r0 := (ho3.cell (p := ⟨w.heap.size + 1, 0, none⟩) (by simp; omega)).trans ((hbc.cell (p := ⟨w.heap.size + 1, 0, none⟩) (by simp; omega)).trans hd0)
    have r1 := (ho3.cell (p := ⟨w.heap.size + 1, 1, none⟩) (by simp; omega)).trans ((hbc.cell (p := ⟨w.heap.size + 1, 1, none⟩) (by simp; omega)).trans hd1)
    have z0 := (ho3.frozen (p := ⟨w.heap.size + 1, 0, none⟩) (by simp; omega)).trans ((hbc.frozen (p := ⟨w.heap.size + 1, 0, none⟩) (by simp; omega)).trans hf0)
    have z1 := (ho3.frozen (p := ⟨w.heap.size + 1, 1, none⟩) (by simp; omega)).trans ((hbc.frozen (p := ⟨w.heap.size + 1, 1, none⟩) (by simp; omega)).trans hf1)
    have hb3 : Below w.heap.size w w3 := hbw.trans (ho3.below hbs)
    have hnb : w.heap.size ≠ sb := by omega
    have hnr : w.heap.size + 1 ≠ sb := by omega
    go_wp2
    clear hcopy hc0 hc1 hd0 hd1 hf0 hf1 hb hbc hrc hcl b0 b1 ho3 hy0 hy1 hblk hbw
    go_loopw [10] (fun i wr => ∃ j : Nat, j ≤ m ∧ i = .int .i64 j ∧ BlkB wr sb (P.packTo T (bs ++ (P.ofVal u m).take j)) ∧ Only sb w3 wr) (fun i _ => m - (intOf i).toNat)
    case atStart => exact ⟨0, by omega, rfl, by simpa using hk3, Only.refl _ _⟩
    case round =>
      obtain ⟨j, hj, rfl, hblk, ho⟩ := hrel
      have e1 := (ho.cell (p := ⟨w.heap.size, 1, none⟩) hnb).trans e0
      have y2 := (ho.cell (p := ⟨yb, 0, none⟩) hne).trans y0
      by_cases hlt : j < m
      · have hxl : (bs ++ (P.ofVal u m).take j).length = bs.length + j := by simp [P.ofVal_len]; omega
        have hq : (bs.length + j) / 8 < T := by omega
        have hc := hblk.cell (j := (bs.length + j) / 8) (by rw [P.packTo_len]; exact hq)
        have hfz := hblk.unfrozen ((bs.length + j) / 8)
        rw [P.packTo_at T _ _ hq] at hc
        have HS := hide (P.take_ofVal u m j hlt)
        have i0 : (0 : Int) ≤ ((bs.length : Int) + (j : Int)) / 8 := by omega
        have i1 : ((bs.length : Int) + (j : Int)) / 8 < (T : Int) := by omega
        by_cases hbit : u / 2 ^ (m - 1 - j) % 2 = 1
        · have HB := hide hbit
          have hbb : (bits BinOp.and IntKind.u64 ((u : Int) / 2 ^ (m - 1 - j)) 1 == 1) = true := by rw [P.and_one u _ (by omega), hbit]; rfl
          clear hbit
          have HX := hide hxl
          clear hxl
          have hbyte := P.byteAt_lt (bs ++ (P.ofVal u m).take j) ((bs.length + j) / 8)
          generalize hcv : P.byteAt (bs ++ (P.ofVal u m).take j) ((bs.length + j) / 8) = cv at hc hbyte
          have HC := hide hcv
          clear hcv
          have s0 : (0 : Int) ≤ ((bs.length : Int) + (j : Int)) % 8 := by omega
          have s1 : ((bs.length : Int) + (j : Int)) % 8 < 8 := by omega
          go_wp2
          go_region
          go_wp2
          go_roundw
          case rel =>
            refine ⟨j + 1, by omega, by go_num, ?_, (ho.setCell _ _).drew⟩
            have h := blk_bit hblk (by rw [HX.out]; exact hq)
            rw [HX.out, HC.out] at h
            rw [HS.out, decide_eq_true HB.out, ← List.append_assoc]
            exact h
          case measure => simp [intOf]; omega
        · have HB := hide hbit
          have hbb : (bits BinOp.and IntKind.u64 ((u : Int) / 2 ^ (m - 1 - j)) 1 == 1) = false := by
            rw [P.and_one u _ (by omega)]
            have : u / 2 ^ (m - 1 - j) % 2 = 0 := by omega
            rw [this]; rfl
          clear hbit hxl
          go_wp2
          go_roundw
          case rel =>
            refine ⟨j + 1, by omega, by go_num, ?_, ho⟩
            rw [HS.out, decide_eq_false HB.out, ← List.append_assoc, P.packTo_snoc0]
            exact hblk
          case measure => simp [intOf]; omega
      · obtain rfl : j = m := by omega
        have y3 := (ho.cell (p := ⟨yb, 1, none⟩) hne).trans y1
        have q0 := (ho.cell (p := ⟨w.heap.size + 1, 0, none⟩) hnr).trans r0
        have q1 := (ho.cell (p := ⟨w.heap.size + 1, 1, none⟩) hnr).trans r1
        have x0 := (ho.frozen (p := ⟨w.heap.size + 1, 0, none⟩) hnr).trans z0
        have x1 := (ho.frozen (p := ⟨w.heap.size + 1, 1, none⟩) hnr).trans z1
        have hlt' : decide ((j : Int) < (j : Int)) = false := by simp
        have hbf : Below w.heap.size w wr := hb3.trans (ho.below hbs)
        have HK := hide hblk
        clear hblk
        go_wp2
        refine bodyPost_ret (v := .tuple #[.agg #[.slice (some ⟨sb, 0, none⟩) T T, .int .i64 ((bs.length : Int) + (j : Int))], .int .i64 0]) (by simp [results, Tryd.results39, go_sem, q0, q1]) rfl ⟨.slice (some ⟨sb, 0, none⟩) T T, ?_, ?_, (hbf.setCell (by simp) _).setCell (by simp) _⟩
        · simp only [Int.natCast_add]
        · have hfin : P.packTo T (bs ++ (P.ofVal u j).take j) = P.pack (bs ++ P.ofVal u j) := by
            rw [List.take_of_length_le (by rw [P.ofVal_len]; exact Nat.le_refl _)]
            unfold P.pack
            rw [List.length_append, P.ofVal_len, hTb.out]
          have hk4 := HK.out
          rw [hfin] at hk4
          have hk5 : BlkB ((wr.setCell ⟨w.heap.size + 1, 0, none⟩ (.slice (some ⟨sb, 0, none⟩) T T)).setCell ⟨w.heap.size + 1, 1, none⟩ (.int .i64 ((bs.length : Int) + (j : Int)))) sb (P.pack (bs ++ P.ofVal u j)) :=
            (heap_setCell_other _ _ sb _ hnr.symm).trans ((heap_setCell_other _ _ sb _ hnr.symm).trans hk4)
          have hlp : (P.pack (bs ++ P.ofVal u j)).length = T := by rw [P.pack_len, List.length_append, P.ofVal_len, hTb.out]
          have ho5 := hk5.own hbs (by rw [hlp]; unfold maxLen; omega)
          rw [hlp] at ho5
          exact ho5
end Go.Proofs.YteohlkpejdjenaaDoor
