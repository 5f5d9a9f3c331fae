/- Several texts in one. -/
import Derived.Test.YtfjbdgkdkbcnhaaDoorPlainAll
import Derived.Test.YtfjbdgkdkbcnhaaDoorShapesAll
/- What delta.pullShape and delta.pullChange answer. -/
namespace Go.Proofs.YtfjbdgkdkbcnhaaDoor
open P
namespace D
open Go.RowKit
set_option linter.unusedVariables false

theorem bit_drop (bs : List Bool) (p j : Nat) : P.bit (bs.drop p) j = P.bit bs (p + j) := by
  unfold P.bit; rw [List.getD_eq_getElem?_getD, List.getD_eq_getElem?_getD, List.getElem?_drop]
/-- One bit is pulled. -/
theorem pull_bit (v : Value) (bs : List Bool) (p j : Nat) (w : World) (hr : RowB w v (P.pack bs)) (n1 : (bs.length : Int) ≤ 9223372036854775807) (h : j < (bs.drop p).length) :
    Calls Tryd.prog 61 #[.agg #[v, .int .i64 bs.length], .int .i64 ((p : Int) + (j : Int)), .int .i64 1] w fun e w' => e = .returned (.tuple #[.int .u64 (P.bit (bs.drop p) j : Nat), .int .i64 0]) ∧ Below w.heap.size w w' := by
  rw [List.length_drop] at h
  have h1 := pull_ok v bs (p + j) 1 w hr n1 (by decide) (by omega)
  have e : P.val ((bs.drop (p + j)).take 1) = P.bit (bs.drop p) j := by
    have h2 := P.val_take bs (p + j) 0 (by omega)
    rw [bit_drop]
    simpa [P.val] using h2
  rw [e, Int.natCast_add] at h1
  exact h1
/-- No bit is there. -/
theorem pull_none (v : Value) (bs : List Bool) (p j k : Nat) (w : World) (hr : RowB w v (P.pack bs)) (n1 : (bs.length : Int) ≤ 9223372036854775807) (hp : p ≤ bs.length) (hj : j ≤ 100) (hk : k ≤ 64) (n2 : (bs.length : Int) ≤ 9223372036854775000) (h : (bs.drop p).length < j + k) :
    Calls Tryd.prog 61 #[.agg #[v, .int .i64 bs.length], .int .i64 ((p : Int) + (j : Int)), .int .i64 k] w fun e w' => e = .returned (.tuple #[.int .u64 0, .int .i64 3]) ∧ Below w.heap.size w w' := by
  rw [List.length_drop] at h
  exact pull_short v _ _ _ _ w hr (P.pack_byt _ bs) n1 (P.pack_ok bs) (by omega) (by omega) (by omega) (by omega) (by omega)

def shape0 : Value := .agg #[.int .u64 0, .int .i64 0, .int .i64 0]
set_option maxHeartbeats 1000000 in
theorem pullShape_any (v : Value) (bs : List Bool) (p : Nat) (w : World) (hr : RowB w v (P.pack bs)) (n1 : (bs.length : Int) ≤ 9223372036854775000) (hp : p ≤ bs.length) (hs : Shp w) :
    Calls Tryd.prog 72 #[.agg #[v, .int .i64 bs.length], .int .i64 p] w fun e w' => Below w.heap.size w w' ∧
      ((∃ k, P.Head (bs.drop p) k ∧ e = .returned (.tuple #[shapeV k, .int .i64 0])) ∨ ((∀ k, ¬ P.Head (bs.drop p) k) ∧ e = .returned (.tuple #[shape0, .int .i64 3]))) := by
  have HB := hide (fun (j : Nat) (h : j < (bs.drop p).length) (w : World) (hr : RowB w v (P.pack bs)) => pull_bit v bs p j w hr (by omega) h)
  have HN := hide (fun (j : Nat) (hj : j ≤ 4) (h : (bs.drop p).length ≤ j) (w : World) (hr : RowB w v (P.pack bs)) => pull_none v bs p j 1 w hr (by omega) hp (by omega) (by decide) n1 (by omega))
  generalize bs.drop p = X at HB HN ⊢
  generalize hW : (w.alloc (.cells #[v, .int .i64 bs.length] 43)).alloc (.cells #[.int .u64 0, .int .i64 0, .int .i64 0] 95) = W
  have hbW : Below w.heap.size w W := by rw [← hW]; exact ((Below.refl _ _).alloc (Nat.le_refl _) _).alloc (by simp) _
  have x0 : W.cell? ⟨w.heap.size, 0, none⟩ = some v := by rw [← hW]; simp
  have x1 : W.cell? ⟨w.heap.size, 1, none⟩ = some (.int .i64 bs.length) := by rw [← hW]; simp
  have r0 : W.cell? ⟨w.heap.size + 1, 0, none⟩ = some (.int .u64 0) := by rw [← hW]; simp
  have r1 : W.cell? ⟨w.heap.size + 1, 1, none⟩ = some (.int .i64 0) := by rw [← hW]; simp
  have r2 : W.cell? ⟨w.heap.size + 1, 2, none⟩ = some (.int .i64 0) := by rw [← hW]; simp
  have f0 : W.frozen? ⟨w.heap.size + 1, 0, none⟩ = false := by rw [← hW]; simp
  have f1 : W.frozen? ⟨w.heap.size + 1, 1, none⟩ = false := by rw [← hW]; simp
  have f2 : W.frozen? ⟨w.heap.size + 1, 2, none⟩ = false := by rw [← hW]; simp
  have hsW : Shp W := hs.next hbW
  have hsz : W.heap.size = w.heap.size + 2 := by rw [← hW]; simp
  have hsz1 := Nat.le_of_eq hsz
  have hsz2 := Nat.le_of_eq hsz.symm
  have hrW : RowB W v (P.pack bs) := hr.below hbW (Nat.le_refl _)
  have HW := hide hW
  clear hW hs hsz hr
  go_enter Tryd.func72, Tryd.ntmps72
  go_wp2
  rw [HW.out]
  go_loopw [6] (fun i wr => ∃ j : Nat, j ≤ 4 ∧ X.take j = List.replicate j true ∧ i = .int .i64 j ∧ Below W.heap.size W wr) (fun i _ => 5 - (intOf i).toNat)
  case atStart => exact ⟨0, by omega, rfl, rfl, Below.refl _ _⟩
  case round =>
    obtain ⟨j, hj, hX, rfl, hbr⟩ := hrel
    have HX := hide hX
    have y0 := keep_cell x0 hbr
    have y1 := keep_cell x1 hbr
    have s0 := keep_cell r0 hbr
    have s1 := keep_cell r1 hbr
    have s2 := keep_cell r2 hbr
    have g0 := (hbr.frozen (p := ⟨w.heap.size + 1, 0, none⟩) (by simp; omega)).trans f0
    have g1 := (hbr.frozen (p := ⟨w.heap.size + 1, 1, none⟩) (by simp; omega)).trans f1
    have g2 := (hbr.frozen (p := ⟨w.heap.size + 1, 2, none⟩) (by simp; omega)).trans f2
    have hrr : RowB wr v (P.pack bs) := hrW.below hbr (Nat.le_refl _)
    obtain ⟨c0, c1, c2, c3, c4, c5, c6, c7, c8, c9, c10, c11, c12, c13, c14⟩ := (hsW.next hbr).all
    have hbf : Below w.heap.size w wr := hbW.trans (hbr.mono (by omega))
    clear x0 x1 r0 r1 r2 f0 f1 f2 hrW hX
    by_cases hlt : j < 4
    · by_cases hl : j < X.length
      · have HC := hide (HB.out j hl)
        by_cases hz : P.bit X j = 0
        · have HH := hide (P.head_zero X j hlt HX.out hl hz)
          rw [hz] at HC
          clear hz hl HB HN
          go_wp2_with fail
          refine (HC.out _ hrr).mono ?_
          rintro e w2 ⟨rfl, hb2⟩
          have t0 := keep_cell s0 hb2; have t1 := keep_cell s1 hb2; have t2 := keep_cell s2 hb2; have q0 := (hb2.frozen (p := ⟨w.heap.size + 1, 0, none⟩) (World.block_lt_of_cell? _ _ s0)).trans g0; have q1 := (hb2.frozen (p := ⟨w.heap.size + 1, 1, none⟩) (World.block_lt_of_cell? _ _ s1)).trans g1; have q2 := (hb2.frozen (p := ⟨w.heap.size + 1, 2, none⟩) (World.block_lt_of_cell? _ _ s2)).trans g2; have hb3 := Below.next hbf hb2
          have d0 := keep_cell c0 hb2; have d1 := keep_cell c1 hb2; have d2 := keep_cell c2 hb2; have d3 := keep_cell c3 hb2; have d4 := keep_cell c4 hb2; have d5 := keep_cell c5 hb2; have d6 := keep_cell c6 hb2; have d7 := keep_cell c7 hb2; have d8 := keep_cell c8 hb2; have d9 := keep_cell c9 hb2; have d10 := keep_cell c10 hb2; have d11 := keep_cell c11 hb2
          have h4 : j = 0 ∨ j = 1 ∨ j = 2 ∨ j = 3 := by omega
          clear hlt hj
          rcases h4 with rfl | rfl | rfl | rfl
          · go_wp2
            refine bodyPost_ret (v := .tuple #[shapeV 0, .int .i64 0]) (by simp [results, Tryd.results72, go_sem, t0, t1, t2]; rfl) rfl ⟨((hb3.setCell (by simp) _).setCell (by simp) _).setCell (by simp) _, .inl ⟨0, HH.out, rfl⟩⟩
          · go_wp2
            refine bodyPost_ret (v := .tuple #[shapeV 1, .int .i64 0]) (by simp [results, Tryd.results72, go_sem, t0, t1, t2]; rfl) rfl ⟨((hb3.setCell (by simp) _).setCell (by simp) _).setCell (by simp) _, .inl ⟨1, HH.out, rfl⟩⟩
          · go_wp2
            refine bodyPost_ret (v := .tuple #[shapeV 2, .int .i64 0]) (by simp [results, Tryd.results72, go_sem, t0, t1, t2]; rfl) rfl ⟨((hb3.setCell (by simp) _).setCell (by simp) _).setCell (by simp) _, .inl ⟨2, HH.out, rfl⟩⟩
          · go_wp2
            refine bodyPost_ret (v := .tuple #[shapeV 3, .int .i64 0]) (by simp [results, Tryd.results72, go_sem, t0, t1, t2]; rfl) rfl ⟨((hb3.setCell (by simp) _).setCell (by simp) _).setCell (by simp) _, .inl ⟨3, HH.out, rfl⟩⟩
        · have HO := hide (P.ones_next X j HX.out hl hz)
          have hbz : ((P.bit X j : Int) == 0) = false := by simp; exact hz
          generalize P.bit X j = bb at HC hbz
          clear hz hl HB HN
          go_wp2_with (go_at_call 61; go_must (refine (HC.out _ hrr).mono ?_); rintro e w2 ⟨rfl, hb2⟩)
          go_roundw
          case rel => exact ⟨j + 1, by omega, HO.out, by go_num, Below.next hbr hb2⟩
          case measure => simp [intOf]; omega
      · have HC := hide (HN.out j hj (by omega))
        have HH := hide (P.no_head X j hlt HX.out (by omega))
        clear hl HB HN
        go_wp2_with (go_at_call 61; go_must (refine (HC.out _ hrr).mono ?_); rintro e w2 ⟨rfl, hb2⟩; have t0 := keep_cell s0 hb2; have t1 := keep_cell s1 hb2; have t2 := keep_cell s2 hb2; have q0 := (hb2.frozen (p := ⟨w.heap.size + 1, 0, none⟩) (World.block_lt_of_cell? _ _ s0)).trans g0; have q1 := (hb2.frozen (p := ⟨w.heap.size + 1, 1, none⟩) (World.block_lt_of_cell? _ _ s1)).trans g1; have q2 := (hb2.frozen (p := ⟨w.heap.size + 1, 2, none⟩) (World.block_lt_of_cell? _ _ s2)).trans g2; have hb3 := Below.next hbf hb2)
        refine bodyPost_ret (v := .tuple #[shape0, .int .i64 3]) (by simp [results, Tryd.results72, go_sem, t0, t1, t2]; rfl) rfl ⟨((hb3.setCell (by simp) _).setCell (by simp) _).setCell (by simp) _, .inr ⟨HH.out, rfl⟩⟩
    · obtain rfl : j = 4 := by omega
      have HH := hide (P.head_four X HX.out)
      clear HB HN
      go_wp2
      refine bodyPost_ret (v := .tuple #[shapeV 4, .int .i64 0]) (by simp [results, Tryd.results72, go_sem, s0, s1, s2]; rfl) rfl ⟨((hbf.setCell (by simp) _).setCell (by simp) _).setCell (by simp) _, .inl ⟨4, HH.out, rfl⟩⟩
end D
end Go.Proofs.YtfjbdgkdkbcnhaaDoor
/- What delta.pullChange answers. -/
namespace Go.Proofs.YtfjbdgkdkbcnhaaDoor
open P
namespace D
open Go.RowKit
set_option linter.unusedVariables false

theorem wd_inj (k k' : Nat) (h : k ≤ 4) (h' : k' ≤ 4) (he : P.wd k = P.wd k') : k = k' := by
  have g : ∀ k, k ≤ 4 → (P.wd k = 0 ∧ k = 0) ∨ (P.wd k = 7 ∧ k = 1) ∨ (P.wd k = 9 ∧ k = 2) ∨ (P.wd k = 12 ∧ k = 3) ∨ (P.wd k = 64 ∧ k = 4) := by
    intro k hk
    have : k = 0 ∨ k = 1 ∨ k = 2 ∨ k = 3 ∨ k = 4 := by omega
    rcases this with rfl | rfl | rfl | rfl | rfl <;> simp [P.wd]
  have := g k h; have := g k' h'
  omega
/-- A box of three words that the call has made, behind a call that leaves old memory alone. -/
theorem box3 {w w2 : World} {c0 c1 c2 : Value} {t : TypeId} (hb : Below (w.alloc (.cells #[c0, c1, c2] t)).heap.size (w.alloc (.cells #[c0, c1, c2] t)) w2) :
    w2.cell? ⟨w.heap.size, 0, none⟩ = some c0 ∧ w2.cell? ⟨w.heap.size, 1, none⟩ = some c1 ∧ w2.cell? ⟨w.heap.size, 2, none⟩ = some c2 ∧ Below w.heap.size w w2 := by
  have h0 := hb.cell (p := ⟨w.heap.size, 0, none⟩) (by simp)
  have h1 := hb.cell (p := ⟨w.heap.size, 1, none⟩) (by simp)
  have h2 := hb.cell (p := ⟨w.heap.size, 2, none⟩) (by simp)
  exact ⟨h0.trans (by simp), h1.trans (by simp), h2.trans (by simp), ((Below.refl _ _).alloc (Nat.le_refl _) _).trans (hb.mono (by simp))⟩
theorem neq_shape (w : World) (a b d a' b' d' : Int) (h : (d' == d) = false) :
    (binOp .neq 95 (.agg #[.int .u64 a', .int .i64 b', .int .i64 d']) (.agg #[.int .u64 a, .int .i64 b, .int .i64 d])).run Tryd.prog w = .ok (.bool true) w := by
  rw [run_neq_struct, run_equalIn_struct w 9999 95 _ _ (by kernel_rfl) (by kernel_rfl)]
  have hf : (Tryd.prog.fieldsOf 95) = #[⟨"head", 50, 0, false, "", "gaugehouse/delta", 0⟩, ⟨"headBits", 3, 1, false, "", "gaugehouse/delta", 8⟩, ⟨"bodyBits", 3, 2, false, "", "gaugehouse/delta", 16⟩] := by kernel_rfl
  rw [hf]
  obtain ⟨D, hD⟩ : ∃ D, D + 1 = 9999 := ⟨9998, rfl⟩
  rw [← hD]
  clear hD hf
  by_cases h1 : (a' == a) = true
  · by_cases h2 : (b' == b) = true
    · simp [go_sem, Tryd.underlying50, Tryd.underlying3, h, h1, h2]
    · rw [Bool.not_eq_true] at h2
      simp [go_sem, Tryd.underlying50, Tryd.underlying3, h1, h2]
  · rw [Bool.not_eq_true] at h1
    simp [go_sem, Tryd.underlying50, Tryd.underlying3, h1]
/-- No change can be read here. -/
def NoChg (X : List Bool) : Prop := ∀ c : Int, -9223372036854775808 ≤ c → c ≤ 9223372036854775807 → ¬ P.Fr X (P.chg c)

set_option maxHeartbeats 2000000 in
theorem pullChange_any (v : Value) (bs : List Bool) (p : Nat) (w : World) (hr : RowB w v (P.pack bs)) (n1 : (bs.length : Int) ≤ 9223372036854775000) (hp : p ≤ bs.length) (hs : Shp w) :
    Calls Tryd.prog 62 #[.agg #[v, .int .i64 bs.length], .int .i64 p] w fun e w' => Below w.heap.size w w' ∧
      ((∃ c : Int, -9223372036854775808 ≤ c ∧ c ≤ 9223372036854775807 ∧ P.Fr (bs.drop p) (P.chg c) ∧ e = .returned (.tuple #[.int .i64 c, .int .i64 ((P.chg c).length : Nat), .int .i64 0])) ∨
       (∃ er : Int, er ≠ 0 ∧ NoChg (bs.drop p) ∧ e = .returned (.tuple #[.int .i64 0, .int .i64 0, .int .i64 er]))) := by
  have HS := hide (fun (w : World) (hr : RowB w v (P.pack bs)) (hs : Shp w) => pullShape_any v bs p w hr n1 hp hs)
  have hr1 := hr.below ((Below.refl _ _).alloc (Nat.le_refl _) (.cells #[v, .int .i64 bs.length] 43)) (Nat.le_refl _)
  have hs1 := hs.next ((Below.refl _ _).alloc (Nat.le_refl _) (.cells #[v, .int .i64 bs.length] 43))
  go_enter Tryd.func62, Tryd.ntmps62
  go_wp2_with fail
  refine (HS.out _ hr1 hs1).mono ?_
  rintro e w2 ⟨hb2, ⟨k, hk, rfl⟩ | ⟨hno, rfl⟩⟩
  · obtain ⟨x0, x1, hbw, hsz⟩ := box2 hb2
    have hr2 : RowB w2 v (P.pack bs) := hr.below hbw (Nat.le_refl _)
    have hs2 : Shp w2 := hs.next hbw
    clear hb2 hr1 hs1 HS hs
    unfold shapeV
    have hb4 := P.hb_le k
    have hd4 := P.wd_le k
    by_cases hl : P.hb k + P.wd k ≤ (bs.drop p).length
    · have hval : Hid (P.val ((bs.drop (p + P.hb k)).take (P.wd k)) = P.val (((bs.drop p).drop (P.hb k)).take (P.wd k))) := by show _ = _; rw [List.drop_drop]
      have hlp : p + P.hb k + P.wd k ≤ bs.length := by rw [List.length_drop] at hl; omega
      have HC : Hid (∀ (w : World), RowB w v (P.pack bs) → Calls Tryd.prog 61 #[.agg #[v, .int .i64 bs.length], .int .i64 ((p : Int) + (P.hb k : Nat)), .int .i64 (P.wd k : Nat)] w fun e w' => e = .returned (.tuple #[.int .u64 (P.val (((bs.drop p).drop (P.hb k)).take (P.wd k)) : Nat), .int .i64 0]) ∧ Below w.heap.size w w') := by
        intro w hr
        have h := pull_ok v bs (p + P.hb k) (P.wd k) w hr (by omega) hd4 hlp
        rw [hval.out, Int.natCast_add] at h
        exact h
      have HR := hide (P.read_sound (bs.drop p) k hk hl _ rfl)
      have HF := hide (fun c h0 h1 hf => P.read_full (bs.drop p) c h0 h1 hf)
      have hvl := P.val_lt (((bs.drop p).drop (P.hb k)).take (P.wd k))
      have hvl2 : P.val (((bs.drop p).drop (P.hb k)).take (P.wd k)) < 2 ^ 64 := Nat.lt_of_lt_of_le hvl (Nat.pow_le_pow_right (by decide) (by rw [List.length_take]; omega))
      have HLo := P.sgn_lo (P.val (((bs.drop p).drop (P.hb k)).take (P.wd k))) k hk.1
      have HSg : Hid (∀ w : World, Calls Tryd.prog 69 #[.int .u64 (P.val (((bs.drop p).drop (P.hb k)).take (P.wd k)) : Nat), .int .i64 (P.wd k : Nat)] w fun e w' => e = .returned (.int .i64 (sgn (P.val (((bs.drop p).drop (P.hb k)).take (P.wd k)) : Nat) (P.wd k))) ∧ w' = w) :=
        fun w => signed_any _ _ w (by omega) (by omega) hd4
      have HCl : Hid (∀ c' : Int, -9223372036854775808 ≤ c' → c' ≤ 9223372036854775807 → P.Fr (bs.drop p) (P.chg c') → P.cls c' = k ∧ c' = sgn (P.val (((bs.drop p).drop (P.hb k)).take (P.wd k)) : Nat) (P.wd k)) := by
        intro c' h0 h1 hf
        obtain ⟨a1, _, a3⟩ := P.read_full (bs.drop p) c' h0 h1 hf
        have e := P.head_one _ _ _ a1 hk
        rw [e] at a3
        exact ⟨e, a3.symm⟩
      have hk4 := hk.1
      clear hvl HF hval
      generalize hbody : P.val (((bs.drop p).drop (P.hb k)).take (P.wd k)) = body at *
      clear hbody
      generalize hc : sgn (body : Int) (P.wd k) = c at *
      clear hc
      obtain ⟨hc0, hc1⟩ := HLo
      have HSh := hide (fun (w : World) (hs : Shp w) => shapeOf_any c w hc0 hc1 hs)
      unfold shapeV at HSh
      have hr3 := fun o => hr2.below ((Below.refl _ _).alloc (Nat.le_refl _) o) (Nat.le_refl _)
      by_cases hcls : P.cls c = k
      · rw [hcls] at HSh
        have HR2 := hide (HR.out hcls)
        have HLn : Hid ((P.chg c).length = P.hb k + P.wd k) := by show _ = _; rw [P.chg_len, hcls]
        clear HR HCl hcls hl hlp
        generalize P.hv k = a at *
        generalize P.hb k = b at *
        generalize P.wd k = d at *
        go_wp2_with (first
          | (go_at_call 61; go_must (refine (HC.out _ (hr3 _)).mono ?_); rintro e w4 ⟨rfl, hb4⟩; obtain ⟨y0, y1, y2, hb5⟩ := box3 hb4; have hs4 := hs2.next hb5; have hb6 := Below.next hbw hb5; clear hb4 hb5)
          | (go_at_call 69; go_must (refine (HSg.out _).mono ?_); rintro e W4 ⟨rfl, rfl⟩))
        go_region_held3 (fun wx => wx.cell? ⟨w2.heap.size, 0, none⟩ = some (.int .u64 a) ∧ wx.cell? ⟨w2.heap.size, 1, none⟩ = some (.int .i64 b) ∧ wx.cell? ⟨w2.heap.size, 2, none⟩ = some (.int .i64 d)) (first | (refine ⟨?_, ?_, ?_⟩ <;> with_reducible assumption) | go_keep) (first
          | (go_at_call 56; refine (HSh.out _ (hs4.next (Below.refl _ _).drew)).mono ?_; rintro e w5 ⟨rfl, hb7⟩; have z0 := keep_cell (w := W4.drew) y0 hb7; have z1 := keep_cell (w := W4.drew) y1 hb7; have z2 := keep_cell (w := W4.drew) y2 hb7; have hb8 := Below.next (w1 := W4.drew) hb6.drew hb7; clear hb7))
        go_wp2
        go_quiet (fail)
        go_wp2
        exact bodyPost_ret (v := .tuple #[.int .i64 c, .int .i64 ((P.chg c).length : Nat), .int .i64 0]) (by rw [HLn.out]; simp [results, Tryd.results62, go_sem]) rfl ⟨Below.drewN hb8 _, .inl ⟨c, hc0, hc1, HR2.out, rfl⟩⟩
      · have HN : Hid (NoChg (bs.drop p)) := by
          intro c' h0 h1 hf
          obtain ⟨e1, e2⟩ := HCl.out c' h0 h1 hf
          rw [e2] at e1
          exact hcls e1
        have hdn : ((P.wd (P.cls c) : Int) == (P.wd k : Int)) = false := by
          rw [beq_eq_false_iff_ne]
          intro e
          exact hcls (wd_inj _ _ (P.cls_le c) hk4 (by omega))
        clear HR HCl hcls hl hlp
        generalize P.hv k = a at *
        generalize P.hb k = b at *
        generalize P.wd k = d at *
        obtain ⟨sv, hsv⟩ : ∃ sv, sv = Value.agg #[.int .u64 (P.hv (P.cls c) : Nat), .int .i64 (P.hb (P.cls c) : Nat), .int .i64 (P.wd (P.cls c) : Nat)] := ⟨_, rfl⟩
        have hq : ∀ w : World, (binOp .neq 95 sv (.agg #[.int .u64 a, .int .i64 b, .int .i64 d])).run Tryd.prog w = .ok (.bool true) w := by
          intro w; rw [hsv]; exact neq_shape w _ _ _ _ _ _ hdn
        have hg : ∀ (x y : Operand) (w : World), (eqGuard .neq 95 x y sv (.agg #[.int .u64 a, .int .i64 b, .int .i64 d])).run Tryd.prog w = .ok () w := by
          intro x y w; rw [hsv]; exact run_eqGuard_agg w _ _ _ _ _ _ (by kernel_rfl)
        rw [← hsv] at HSh
        clear hdn hsv
        go_wp2_with (first
          | (go_at_call 61; go_must (refine (HC.out _ (hr3 _)).mono ?_); rintro e w4 ⟨rfl, hb4⟩; obtain ⟨y0, y1, y2, hb5⟩ := box3 hb4; have hs4 := hs2.next hb5; have hb6 := Below.next hbw hb5; clear hb4 hb5)
          | (go_at_call 69; go_must (refine (HSg.out _).mono ?_); rintro e W4 ⟨rfl, rfl⟩))
        go_region_held3 (fun wx => wx.cell? ⟨w2.heap.size, 0, none⟩ = some (.int .u64 a) ∧ wx.cell? ⟨w2.heap.size, 1, none⟩ = some (.int .i64 b) ∧ wx.cell? ⟨w2.heap.size, 2, none⟩ = some (.int .i64 d)) (first | (refine ⟨?_, ?_, ?_⟩ <;> with_reducible assumption) | go_keep) (first
          | (go_at_call 56; refine (HSh.out _ (hs4.next (Below.refl _ _).drew)).mono ?_; rintro e w5 ⟨rfl, hb7⟩; have z0 := keep_cell (w := W4.drew) y0 hb7; have z1 := keep_cell (w := W4.drew) y1 hb7; have z2 := keep_cell (w := W4.drew) y2 hb7; have hb8 := Below.next (w1 := W4.drew) hb6.drew hb7; clear hb7))
        go_wp2
        exact bodyPost_ret (v := .tuple #[.int .i64 0, .int .i64 0, .int .i64 4]) (by simp [results, Tryd.results62, go_sem]) rfl ⟨hb8, .inr ⟨4, by decide, HN.out, rfl⟩⟩
    · have HN : Hid (NoChg (bs.drop p)) := by
        intro c h0 h1 hf
        obtain ⟨a1, a2, _⟩ := P.read_full _ c h0 h1 hf
        rw [P.head_one _ _ _ a1 hk] at a2
        exact hl a2
      have HC := hide (fun (w : World) (hr : RowB w v (P.pack bs)) => pull_none v bs p (P.hb k) (P.wd k) w hr (by omega) hp (by omega) hd4 n1 (by omega))
      generalize P.hv k = a at *
      generalize P.hb k = b at *
      generalize P.wd k = d at *
      clear hl hk
      have hr3 := fun o => hr2.below ((Below.refl _ _).alloc (Nat.le_refl _) o) (Nat.le_refl _)
      go_wp2_with (go_at_call 61; go_must (refine (HC.out _ (hr3 _)).mono ?_); rintro e w4 ⟨rfl, hb4⟩)
      exact bodyPost_ret (v := .tuple #[.int .i64 0, .int .i64 0, .int .i64 3]) (by simp [results, Tryd.results62, go_sem]) rfl ⟨Below.next (below_alloc hbw _) hb4, .inr ⟨3, by decide, HN.out, rfl⟩⟩
  · obtain ⟨x0, x1, hbw, hsz⟩ := box2 hb2
    have HN : Hid (NoChg (bs.drop p)) := fun c h0 h1 hf => hno _ (P.read_full _ c h0 h1 hf).1
    clear hb2 hno hr1 hs1 HS hr hs
    unfold shape0
    go_wp2
    exact bodyPost_ret (v := .tuple #[.int .i64 0, .int .i64 0, .int .i64 3]) (by simp [results, Tryd.results62, go_sem]) rfl ⟨below_alloc hbw _, .inr ⟨3, by decide, HN.out, rfl⟩⟩
end D
end Go.Proofs.YtfjbdgkdkbcnhaaDoor
/- What delta.pullTimes and delta.Unpack answer. -/
namespace Go.Proofs.YtfjbdgkdkbcnhaaDoor
open P
namespace D
open Go.RowKit
set_option linter.unusedVariables false

theorem front0_len (n : Nat) : (P.front [] n 0).length = 16 := by rw [P.front_zero, P.ofVal_len]
theorem packT_front (l : List Int) (n : Nat) (h : l.length = n) : P.front l n l.length = P.packT l := by unfold P.packT; rw [h]

set_option maxHeartbeats 2000000 in
theorem times_loop (v : Value) (bs : List Bool) (n : Nat) (w : World) (hr : RowB w v (P.pack bs)) (n1 : (bs.length : Int) ≤ 9223372036854775000) (hs : Shp w) (h16 : 16 ≤ bs.length) (hn : P.val (bs.take 16) = n) (hle : n ≤ 1000) :
    Calls Tryd.prog 49 #[.agg #[v, .int .i64 bs.length]] w fun e w' => Below w.heap.size w w' ∧
      ((∃ (l : List Int) (a : Option Addr) (c : Nat), P.Is bs l ∧ (∀ m, P.Is bs m → m = l) ∧ OwnK 2 .i64 w' w.heap.size (.slice a l.length c) l ∧ e = .returned (.tuple #[.slice a l.length c, .int .i64 ((P.packT l).length : Nat), .int .i64 0])) ∨
       ((∀ m, ¬ P.Is bs m) ∧ e = .returned (.tuple #[.slice none 0 0, .int .i64 0, .int .i64 4]))) := by
  have HC16 : Hid (∀ w : World, RowB w v (P.pack bs) → Calls Tryd.prog 61 #[.agg #[v, .int .i64 bs.length], .int .i64 0, .int .i64 16] w fun e w' => e = .returned (.tuple #[.int .u64 n, .int .i64 0]) ∧ Below w.heap.size w w') := by
    intro w hr
    have h := pull_ok v bs 0 16 w hr (by omega) (by decide) (by omega)
    rw [List.drop_zero, hn] at h
    exact h
  have HCnt : Hid (∀ m, P.Is bs m → m.length = n) := fun m hm => by rw [← hm.count.2, hn]
  have H64 : Hid (∀ (A : Nat) (w : World), RowB w v (P.pack bs) → A + 64 ≤ bs.length → Calls Tryd.prog 61 #[.agg #[v, .int .i64 bs.length], .int .i64 A, .int .i64 64] w fun e w' => e = .returned (.tuple #[.int .u64 (P.val ((bs.drop A).take 64) : Nat), .int .i64 0]) ∧ Below w.heap.size w w') :=
    fun A w hr h => pull_ok v bs A 64 w hr (by omega) (by decide) (by omega)
  have H64n : Hid (∀ (A : Nat) (w : World), RowB w v (P.pack bs) → A ≤ bs.length → bs.length < A + 64 → Calls Tryd.prog 61 #[.agg #[v, .int .i64 bs.length], .int .i64 A, .int .i64 64] w fun e w' => e = .returned (.tuple #[.int .u64 0, .int .i64 3]) ∧ Below w.heap.size w w') :=
    fun A w hr h h2 => pull_short v _ _ _ _ w hr (P.pack_byt _ bs) (by omega) (P.pack_ok bs) (by omega) (by omega) (by omega) (by omega) (by omega)
  have HF0 : Hid (P.Fr bs (P.front [] n 0)) := by
    show P.Fr _ _
    have hl : (bs.take 16).length = 16 := by rw [List.length_take]; omega
    rw [P.front_zero, ← hn, P.ofVal_of _ _ hl]
    unfold P.Fr; rw [hl]
  have hr1 := hr.below ((Below.refl _ _).alloc (Nat.le_refl _) (.cells #[v, .int .i64 bs.length] 43)) (Nat.le_refl _)
  clear hn
  go_enter Tryd.func49, Tryd.ntmps49
  go_wp2_with (go_at_call 61; go_must (refine (HC16.out _ hr1).mono ?_); rintro e w2 ⟨rfl, hb2⟩)
  obtain ⟨x0, x1, hbw, hsz⟩ := box2 hb2
  have hB : Below (w.heap.size + 1) (w.alloc (.cells #[v, .int .i64 bs.length] 43)) w2 := hb2.mono (by simp)
  generalize hW : w.alloc (.cells #[v, .int .i64 bs.length] 43) = W at hB
  have c0 : W.cell? ⟨w.heap.size, 0, none⟩ = some v := by rw [← hW]; simp
  have c1 : W.cell? ⟨w.heap.size, 1, none⟩ = some (.int .i64 bs.length) := by rw [← hW]; simp
  have hbW : Below w.heap.size w W := by rw [← hW]; exact (Below.refl _ _).alloc (Nat.le_refl _) _
  clear hW hb2 hr1 x0 x1 hbw HC16
  go_loopw [7, 8, 9, 10, 11] (fun vl la st at' i wr => ∃ (acc : List Int) (a : Option Addr) (c : Nat), acc.length ≤ n ∧ P.I64 acc ∧ P.Fr bs (P.front acc n acc.length) ∧ (∀ m, P.Is bs m → m.take acc.length = acc) ∧
      vl = .slice a acc.length c ∧ la = .int .i64 (P.lst acc acc.length) ∧ st = .int .i64 (P.stp acc acc.length) ∧ at' = .int .i64 (P.front acc n acc.length).length ∧ i = .int .i64 acc.length ∧
      OwnK 2 .i64 wr (w.heap.size + 1) (.slice a acc.length c) acc ∧ Below (w.heap.size + 1) W wr) (fun _ _ _ _ i _ => n - (intOf i).toNat)
  case atStart => exact ⟨[], none, 0, by simp, (fun x hx => by cases hx), HF0.out, fun m _ => rfl, rfl, rfl, rfl, by rw [show ([] : List Int).length = 0 from rfl, front0_len]; rfl, rfl, OwnK.nil _ _ _ _, hB⟩
  case round =>
    obtain ⟨acc, a, c, hacc, hi, hfr, hcp, rfl, rfl, rfl, rfl, rfl, hown, hbr⟩ := hrel
    have y0 := (hbr.cell (p := ⟨w.heap.size, 0, none⟩) (by simp)).trans c0
    have y1 := (hbr.cell (p := ⟨w.heap.size, 1, none⟩) (by simp)).trans c1
    have hbf : Below w.heap.size w wr := hbW.trans (hbr.mono (by omega))
    have hrr : RowB wr v (P.pack bs) := hr.below hbf (Nat.le_refl _)
    have hsr : Shp wr := hs.next hbf
    have hszr : w.heap.size + 1 ≤ wr.heap.size := Nat.le_trans (by have := World.block_lt_of_cell? _ _ c0; exact this) hbr.size
    have hAl := hfr.len
    by_cases hlt : acc.length < n
    · by_cases hz : acc.length = 0
      · have htest : ((acc.length : Int) == 0) = true := by simp; exact List.length_eq_zero_iff.1 hz
        have HM : Hid (∀ m, P.Is bs m → P.Fr (bs.drop (P.front acc n acc.length).length) (P.tb m acc.length)) := fun m hm => by
          have e := HCnt.out m hm
          have h1 := hm.at (hcp m hm) (by omega)
          rw [e] at h1
          exact h1
        by_cases hl : (P.front acc n acc.length).length + 64 ≤ bs.length
        · obtain ⟨f, hf⟩ : ∃ f, f = P.val ((bs.drop (P.front acc n acc.length).length).take 64) := ⟨_, rfl⟩
          have HN : Hid (P.Fr bs (P.front (acc ++ [wrap64 f]) n (acc.length + 1)) ∧ (P.front (acc ++ [wrap64 f]) n (acc.length + 1)).length = (P.front acc n acc.length).length + 64) := by
            have h1 := P.first_sound (bs.drop (P.front acc n acc.length).length) (by rw [List.length_drop]; omega)
            rw [← hf] at h1
            have hnil : acc = [] := List.length_eq_zero_iff.1 hz
            have h2 : P.Fr (bs.drop (P.front acc n acc.length).length) (P.tb (acc ++ [wrap64 f]) acc.length) := by rw [hz]; subst hnil; exact h1
            have h3 := P.read_step bs acc n (wrap64 f) hfr h2
            have h4 : (P.tb (acc ++ [wrap64 f]) acc.length).length = 64 := by rw [hz, P.tb_zero, P.ofVal_len]
            rw [h4] at h3
            exact h3
          have HG : Hid (∀ m, P.Is bs m → m.take (acc.length + 1) = acc ++ [wrap64 f]) := fun m hm => by
            have h1 := HM.out m hm
            have hzt : P.tb m acc.length = P.tb m 0 := by rw [hz]
            rw [hzt] at h1
            have h2 := (P.first_full _ m hm.2.1 h1).2
            rw [← hf] at h2
            have e := HCnt.out m hm
            rw [P.take_next m acc (hcp m hm) (by omega), ← h2]
            congr 3
          have HL := hide (P.lst_new acc (wrap64 f))
          have HS : Hid (P.stp (acc ++ [wrap64 f]) (acc.length + 1) = P.stp acc acc.length) := by show _ = _; rw [hz]; rfl
          have hf2 : f < 18446744073709551616 := by
            have h1 := P.val_take_lt bs (P.front acc n acc.length).length 64
            rw [← hf] at h1
            omega
          have HC : Hid (∀ w : World, RowB w v (P.pack bs) → Calls Tryd.prog 61 #[.agg #[v, .int .i64 bs.length], .int .i64 (P.front acc n acc.length).length, .int .i64 64] w fun e w' => e = .returned (.tuple #[.int .u64 f, .int .i64 0]) ∧ Below w.heap.size w w') := by
            intro w hr
            have h1 := H64.out _ w hr hl
            rw [← hf] at h1
            exact h1
          have HI := hide (P.i64_snoc hi (P.wrap64_lo f) (P.wrap64_hi f))
          clear hf hfr hcp HM hi H64 H64n HF0 hz
          generalize (P.front acc n acc.length).length = A at *
          generalize P.lst acc acc.length = la at *
          generalize P.stp acc acc.length = st at *
          go_wp2_with (first
            | (go_at_call 61; go_must (refine (HC.out _ hrr).mono ?_); rintro e w3 ⟨rfl, hb3⟩; have hown3 := OwnK.below hown hb3 (Nat.le_refl _); have hbr3 := hbr.trans (hb3.mono hszr); have hsz3 := Nat.le_trans hszr hb3.size; clear hb3)
            | (at_builtin; go_must (refine wp_app1K rfl _ _ 38 2 .i64 8 rfl Tryd.underlying38 Tryd.info2 (by decide) (w.heap.size + 1) (w.heap.size + 1) W w3 _ acc _ hown3 hbr3 (Nat.le_refl _) rfl rfl (by omega) hsz3 ?_); intro v' w' hown' hb' hsz' hg'; obtain ⟨a', cap', hv'⟩ := hown'.shape; rw [hv'] at hown' ⊢; clear hv'))
          go_roundw
          case rel =>
            have e1 : (acc ++ [wrap64 (f : Int)]).length = acc.length + 1 := by simp
            refine ⟨acc ++ [wrap64 f], a', cap', by rw [e1]; omega, HI.out, by rw [e1]; exact HN.out.1, by rw [e1]; exact HG.out, by rw [e1], by rw [e1, HL.out], by rw [e1, HS.out], ?_, by rw [e1]; simp, hown', hb'⟩
            rw [e1, HN.out.2]; simp
          case measure => simp [intOf]; omega
        · have HNo : Hid (∀ m, ¬ P.Is bs m) := fun m hm => by
            have h1 := HM.out m hm
            have hzt : P.tb m acc.length = P.tb m 0 := by rw [hz]
            rw [hzt] at h1
            have h2 := (P.first_full _ m hm.2.1 h1).1
            rw [List.length_drop] at h2
            omega
          have HC := hide (fun (w : World) (hr : RowB w v (P.pack bs)) => H64n.out (P.front acc n acc.length).length w hr hAl (by omega))
          clear hfr hcp HM hi H64 H64n HF0 hz hl
          generalize (P.front acc n acc.length).length = A at *
          generalize P.lst acc acc.length = la at *
          generalize P.stp acc acc.length = st at *
          go_wp2_with (go_at_call 61; go_must (refine (HC.out _ hrr).mono ?_); rintro e w3 ⟨rfl, hb3⟩; have hb4 := Below.next hbf hb3; clear hb3)
          exact bodyPost_ret (v := .tuple #[.slice none 0 0, .int .i64 0, .int .i64 4]) (by simp [results, Tryd.results49, go_sem]) rfl ⟨hb4, .inr ⟨HNo.out, rfl⟩⟩
      · have htest : ((acc.length : Int) == 0) = false := by simp; intro h; exact hz (by rw [h]; rfl)
        have hpos : 0 < acc.length := by omega
        have HM : Hid (∀ m, P.Is bs m → P.Fr (bs.drop (P.front acc n acc.length).length) (P.tb m acc.length)) := fun m hm => by
          have e := HCnt.out m hm
          have h1 := hm.at (hcp m hm) (by omega)
          rw [e] at h1
          exact h1
        have HC := hide (pullChange_any v bs (P.front acc n acc.length).length wr hrr n1 hAl hsr)
        have HStep := hide (fun (c : Int) (h0 : -9223372036854775808 ≤ c) (h1 : c ≤ 9223372036854775807) (hf : P.Fr (bs.drop (P.front acc n acc.length).length) (P.chg c)) => P.read_step bs acc n (P.nxt acc c) hfr (by rw [P.tb_next acc c h0 h1 hpos]; exact hf))
        have HTn := hide (fun (c : Int) (h0 : -9223372036854775808 ≤ c) (h1 : c ≤ 9223372036854775807) => P.tb_next acc c h0 h1 hpos)
        have HG : Hid (∀ (c : Int), -9223372036854775808 ≤ c → c ≤ 9223372036854775807 → P.Fr (bs.drop (P.front acc n acc.length).length) (P.chg c) → ∀ m, P.Is bs m → m.take (acc.length + 1) = acc ++ [P.nxt acc c]) := fun c h0 h1 hf m hm => by
          have e := HCnt.out m hm
          rw [P.take_next m acc (hcp m hm) (by omega), P.next_full m acc hm.2.1 (hcp m hm) hpos c h0 h1 _ hf (HM.out m hm)]
        have HL := hide (fun y => P.lst_new acc y)
        have HS := hide (fun c => P.stp_new acc c hpos)
        have HX : Hid (∀ c, P.nxt acc c = wrap64 (P.lst acc acc.length + wrap64 (P.stp acc acc.length + c))) := fun c => rfl
        have HI := hide (fun c => P.i64_snoc hi (P.wrap64_lo (P.lst acc acc.length + wrap64 (P.stp acc acc.length + c))) (P.wrap64_hi _))
        have HNo : Hid (NoChg (bs.drop (P.front acc n acc.length).length) → ∀ m, ¬ P.Is bs m) := fun hno m hm => by
          have h1 := HM.out m hm
          unfold P.tb at h1
          rw [if_neg hz] at h1
          exact hno _ (P.wrap64_lo _) (P.wrap64_hi _) h1
        clear hfr hcp HM hi H64 H64n HF0 hz
        generalize hA : (P.front acc n acc.length).length = A at *
        generalize P.lst acc acc.length = la at *
        generalize P.stp acc acc.length = st at *
        have HA := hide hA
        clear hA
        go_wp2_with fail
        refine HC.out.mono ?_
        rintro e w3 ⟨hb3, ⟨c, c0', c1', hfc, rfl⟩ | ⟨er, her, hno, rfl⟩⟩
        · have hst := HStep.out c c0' c1' hfc
          have htn := HTn.out c c0' c1'
          have hcl := P.chg_le c
          rw [htn] at hst
          have HG2 := hide (HG.out c c0' c1' hfc)
          have HL2 := hide (HL.out (P.nxt acc c))
          have HS2 := hide (HS.out c)
          have HI2 := hide (HI.out c)
          have hx := HX.out c
          rw [hx] at hst HG2 HL2 HS2
          have HN := hide hst
          clear hst htn hx HG HL HS HI HX HStep HTn HNo HC hfc
          generalize (P.chg c).length = L at *
          have hown3 := OwnK.below hown hb3 (Nat.le_refl _)
          have hbr3 := hbr.trans (hb3.mono hszr)
          have hsz3 := Nat.le_trans hszr hb3.size
          clear hb3
          go_wp2_with (at_builtin; go_must (refine wp_app1K rfl _ _ 38 2 .i64 8 rfl Tryd.underlying38 Tryd.info2 (by decide) (w.heap.size + 1) (w.heap.size + 1) W w3 _ acc _ hown3 hbr3 (Nat.le_refl _) rfl rfl (by omega) hsz3 ?_); intro v' w' hown' hb' hsz' hg'; obtain ⟨a', cap', hv'⟩ := hown'.shape; rw [hv'] at hown' ⊢; clear hv')
          go_roundw
          case rel =>
            generalize wrap64 (la + wrap64 (st + c)) = y at *
            have e1 : (acc ++ [y]).length = acc.length + 1 := by simp
            refine ⟨acc ++ [y], a', cap', by rw [e1]; omega, HI2.out, by rw [e1]; exact HN.out.1, by rw [e1]; exact HG2.out, by rw [e1], by rw [e1, HL2.out], by rw [e1, HS2.out], ?_, by rw [e1]; simp, hown', hb'⟩
            rw [e1, HN.out.2]; simp
          case measure => simp [intOf]; omega
        · have HNo2 := hide (HNo.out hno)
          have hner : (er != 0) = true := bne_iff_ne.2 her
          have hb4 := Below.next hbf hb3
          clear HG HL HS HI HX HStep HTn HNo HC hno her hb3
          go_wp2
          exact bodyPost_ret (v := .tuple #[.slice none 0 0, .int .i64 0, .int .i64 4]) (by simp [results, Tryd.results49, go_sem]) rfl ⟨hb4, .inr ⟨HNo2.out, rfl⟩⟩
    · obtain rfl : acc.length = n := by omega
      have hd : decide ((acc.length : Int) < (acc.length : Int)) = false := by simp
      go_wp2
      rw [packT_front acc acc.length rfl] at hfr ⊢
      exact bodyPost_ret (v := .tuple #[.slice a acc.length c, .int .i64 ((P.packT acc).length : Nat), .int .i64 0]) (by simp [results, Tryd.results49, go_sem]) rfl ⟨hbf, .inl ⟨acc, a, c, ⟨hle, hi, hfr⟩, fun m hm => by
        have h1 := hcp m hm
        rw [← HCnt.out m hm, List.take_length] at h1
        exact h1, hown.base (by omega), rfl⟩⟩
end D
end Go.Proofs.YtfjbdgkdkbcnhaaDoor
/- What delta.Unpack answers. -/
namespace Go.Proofs.YtfjbdgkdkbcnhaaDoor
open P
namespace D
open Go.RowKit
set_option linter.unusedVariables false

theorem times_short (v : Value) (bs : List Bool) (w : World) (hr : RowB w v (P.pack bs)) (n1 : (bs.length : Int) ≤ 9223372036854775000) (h16 : bs.length < 16) :
    Calls Tryd.prog 49 #[.agg #[v, .int .i64 bs.length]] w fun e w' => Below w.heap.size w w' ∧ e = .returned (.tuple #[.slice none 0 0, .int .i64 0, .int .i64 4]) := by
  have HC := hide (fun (w : World) (hr : RowB w v (P.pack bs)) => pull_short v _ _ 0 16 w hr (P.pack_byt _ bs) (show (bs.length : Int) ≤ 9223372036854775807 by omega) (P.pack_ok bs) (by decide) (by decide) (by decide) (by decide) (by omega))
  have hr1 := hr.below ((Below.refl _ _).alloc (Nat.le_refl _) (.cells #[v, .int .i64 bs.length] 43)) (Nat.le_refl _)
  go_enter Tryd.func49, Tryd.ntmps49
  go_wp2_with (go_at_call 61; go_must (refine (HC.out _ hr1).mono ?_); rintro e w2 ⟨rfl, hb2⟩)
  exact bodyPost_ret (v := .tuple #[.slice none 0 0, .int .i64 0, .int .i64 4]) (by simp [results, Tryd.results49, go_sem]) rfl ⟨(box2 hb2).2.2.1, rfl⟩
theorem times_many (v : Value) (bs : List Bool) (n : Nat) (w : World) (hr : RowB w v (P.pack bs)) (n1 : (bs.length : Int) ≤ 9223372036854775000) (h16 : 16 ≤ bs.length) (hn : P.val (bs.take 16) = n) (hle : 1000 < n) :
    Calls Tryd.prog 49 #[.agg #[v, .int .i64 bs.length]] w fun e w' => Below w.heap.size w w' ∧ e = .returned (.tuple #[.slice none 0 0, .int .i64 0, .int .i64 4]) := by
  have HC16 : Hid (∀ w : World, RowB w v (P.pack bs) → Calls Tryd.prog 61 #[.agg #[v, .int .i64 bs.length], .int .i64 0, .int .i64 16] w fun e w' => e = .returned (.tuple #[.int .u64 n, .int .i64 0]) ∧ Below w.heap.size w w') := by
    intro w hr
    have h := pull_ok v bs 0 16 w hr (by omega) (by decide) (by omega)
    rw [List.drop_zero, hn] at h
    exact h
  have hr1 := hr.below ((Below.refl _ _).alloc (Nat.le_refl _) (.cells #[v, .int .i64 bs.length] 43)) (Nat.le_refl _)
  have hd : decide (1000 < (n : Int)) = true := by simp; omega
  clear hn
  go_enter Tryd.func49, Tryd.ntmps49
  go_wp2_with (go_at_call 61; go_must (refine (HC16.out _ hr1).mono ?_); rintro e w2 ⟨rfl, hb2⟩)
  exact bodyPost_ret (v := .tuple #[.slice none 0 0, .int .i64 0, .int .i64 4]) (by simp [results, Tryd.results49, go_sem]) rfl ⟨(box2 hb2).2.2.1, rfl⟩
theorem pullTimes_any (v : Value) (bs : List Bool) (w : World) (hr : RowB w v (P.pack bs)) (n1 : (bs.length : Int) ≤ 9223372036854775000) (hs : Shp w) :
    Calls Tryd.prog 49 #[.agg #[v, .int .i64 bs.length]] w fun e w' => Below w.heap.size w w' ∧
      ((∃ (l : List Int) (a : Option Addr) (c : Nat), P.Is bs l ∧ (∀ m, P.Is bs m → m = l) ∧ OwnK 2 .i64 w' w.heap.size (.slice a l.length c) l ∧ e = .returned (.tuple #[.slice a l.length c, .int .i64 ((P.packT l).length : Nat), .int .i64 0])) ∨
       ((∀ m, ¬ P.Is bs m) ∧ e = .returned (.tuple #[.slice none 0 0, .int .i64 0, .int .i64 4]))) := by
  by_cases h16 : 16 ≤ bs.length
  · by_cases hle : P.val (bs.take 16) ≤ 1000
    · exact times_loop v bs _ w hr n1 hs h16 rfl hle
    · refine (times_many v bs _ w hr n1 h16 rfl (by omega)).mono fun e w' h => ⟨h.1, .inr ⟨fun m hm => ?_, h.2⟩⟩
      have := hm.count.2
      have := hm.1
      omega
  · refine (times_short v bs w hr n1 (by omega)).mono fun e w' h => ⟨h.1, .inr ⟨fun m hm => ?_, h.2⟩⟩
    have := hm.count.1
    omega

/-- Just what Pack makes of this list. -/
def Isx (bs : List Bool) (m : List Int) : Prop := m.length ≤ 1000 ∧ P.I64 m ∧ bs = P.packT m
theorem Isx.is {bs : List Bool} {m : List Int} (h : Isx bs m) : P.Is bs m := ⟨h.1, h.2.1, by rw [h.2.2]; unfold P.Fr; rw [List.take_length]⟩
set_option maxHeartbeats 1000000 in
theorem unpack_ok (v : Value) (bs : List Bool) (w : World) (hr : RowB w v (P.pack bs)) (n1 : (bs.length : Int) ≤ 9223372036854775000) (hs : Shp w) :
    Calls Tryd.prog 26 #[.agg #[v, .int .i64 bs.length]] w fun e w' => Below w.heap.size w w' ∧
      ((∃ (l : List Int) (a : Option Addr) (c : Nat), Isx bs l ∧ (∀ m, Isx bs m → m = l) ∧ OwnK 2 .i64 w' w.heap.size (.slice a l.length c) l ∧ e = .returned (.tuple #[.slice a l.length c, .int .i64 0])) ∨
       ((∀ m, ¬ Isx bs m) ∧ e = .returned (.tuple #[.slice none 0 0, .int .i64 4]))) := by
  have hr1 := hr.below ((Below.refl _ _).alloc (Nat.le_refl _) (.cells #[v, .int .i64 bs.length] 43)) (Nat.le_refl _)
  have HCk := hide (fun (w : World) (hr : RowB w v (P.pack bs)) => check_ok v _ _ w hr (P.pack_byt _ bs) (show (bs.length : Int) ≤ 9223372036854775807 by omega) (P.pack_ok bs))
  have HT := hide (fun (w : World) (hr : RowB w v (P.pack bs)) (hs : Shp w) => pullTimes_any v bs w hr n1 hs)
  go_enter Tryd.func26, Tryd.ntmps26
  go_wp2_with (go_at_call 48; go_must (refine (HCk.out _ hr1).mono ?_); rintro e w2 ⟨rfl, hb2⟩; obtain ⟨x0, x1, hb, hsz⟩ := box2 hb2; clear hb2)
  have hr2 : RowB w2 v (P.pack bs) := hr.below hb (Nat.le_refl _)
  have hs2 : Shp w2 := hs.next hb
  refine (HT.out _ hr2 hs2).mono ?_
  rintro e w3 ⟨hb3, ⟨l, a, c, hl, huni, hown, rfl⟩ | ⟨hno, rfl⟩⟩
  · have y1 := keep_cell x1 hb3
    have hb4 := Below.next hb hb3
    have hown' := hown.base hb.size
    by_cases hN : (P.packT l).length = bs.length
    · have HX : Hid (Isx bs l) := ⟨hl.1, hl.2.1, by
        have h := hl.2.2
        unfold P.Fr at h
        rw [hN, List.take_length] at h
        exact h⟩
      have hq : (((P.packT l).length : Int) != (bs.length : Int)) = false := by simp [hN]
      have HU : Hid (∀ m, Isx bs m → m = l) := fun m hm => huni m hm.is
      clear hN hl huni HT HCk
      go_wp2
      go_ret2
      exact ⟨hb4, .inl ⟨l, a, c, HX.out, HU.out, hown', rfl⟩⟩
    · have HX : Hid (∀ m, ¬ Isx bs m) := fun m hm => by
        have := huni m hm.is
        subst this
        exact hN (by rw [← hm.2.2])
      have hq : (((P.packT l).length : Int) != (bs.length : Int)) = true := by rw [bne_iff_ne]; omega
      clear hN hl huni HT HCk
      go_wp2
      go_ret2
      exact ⟨hb4, .inr ⟨HX.out, rfl⟩⟩
  · have HX : Hid (∀ m, ¬ Isx bs m) := fun m hm => hno m hm.is
    have hb4 := Below.next hb hb3
    clear hno HT HCk
    go_wp2
    go_ret2
    exact ⟨hb4, .inr ⟨HX.out, rfl⟩⟩
theorem unpack_bad (v : Value) (l : List Int) (n : Int) (w : World) (hr : RowB w v l) (hbt : Byt l) (n0 : -9223372036854775808 ≤ n) (n1 : n ≤ 9223372036854775807) (hok : ¬ P.OkB l n) :
    Calls Tryd.prog 26 #[.agg #[v, .int .i64 n]] w fun e w' => Below w.heap.size w w' ∧ e = .returned (.tuple #[.slice none 0 0, .int .i64 4]) := by
  have hr1 := hr.below ((Below.refl _ _).alloc (Nat.le_refl _) (.cells #[v, .int .i64 n] 43)) (Nat.le_refl _)
  go_enter Tryd.func26, Tryd.ntmps26
  go_wp2_with (go_at_call 48; go_must (refine (check_bad _ l n _ hr1 hbt n0 n1 hok).mono ?_); rintro e w2 ⟨rfl, hb2⟩)
  go_ret2
  exact ⟨(box2 hb2).2.2.1, rfl⟩
end D
end Go.Proofs.YtfjbdgkdkbcnhaaDoor
