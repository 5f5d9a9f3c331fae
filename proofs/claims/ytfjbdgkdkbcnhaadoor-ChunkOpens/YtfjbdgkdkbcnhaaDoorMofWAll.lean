/- Several texts in one. -/
import Derived.Test.YtfjbdgkdkbcnhaaDoorPlainAll
import Derived.Test.YtfjbdgkdkbcnhaaDoorMofPAll
/- What the document's own MeasuresOf answers. -/
namespace Go.Proofs.YtfjbdgkdkbcnhaaDoor
open P
namespace X
open Go.RowKit
set_option linter.unusedVariables false
set_option linter.unusedSimpArgs false
theorem strB_inj (a b : List Bool) (h : (P.strB a).toList = (P.strB b).toList) : a = b := by
  rw [ByteArray.toList_eq, ByteArray.toList_eq, P.strB_data, P.strB_data] at h
  exact List.map_inj_right (f := fun b : Bool => UInt8.ofNat (48 + b.toNat)) (by decide) |>.1 h
theorem extract_front (rs : List Bool) (n : Nat) : (P.strB rs).extract 0 n = P.strB (rs.take n) := by rw [P.strB_extract]; simp
theorem extract_rest (rs : List Bool) (n : Nat) : (P.strB rs).extract n (P.strB rs).size = P.strB (rs.drop n) := by
  rw [P.strB_extract, P.strB_size, List.take_of_length_le (by rw [List.length_drop]; omega)]
/-- The two boxes of MeasuresOf: what is left of the signs, whether too few were there. -/
structure Tk (w : World) (bx : Nat) (rs : List Bool) (bad : Bool) : Prop where
  c0 : w.cell? ⟨bx, 0, none⟩ = some (.string (P.strB rs))
  f0 : w.frozen? ⟨bx, 0, none⟩ = false
  c1 : w.cell? ⟨bx + 1, 0, none⟩ = some (.bool bad)
  f1 : w.frozen? ⟨bx + 1, 0, none⟩ = false
theorem Tk.lt {w : World} {bx : Nat} {rs : List Bool} {bad : Bool} (h : Tk w bx rs bad) : bx + 1 < w.heap.size := World.block_lt_of_cell? _ _ h.c1
theorem Tk.belowB {w w' : World} {bx B : Nat} {rs : List Bool} {bad : Bool} (h : Tk w bx rs bad) (hb : Below B w w') (hB : bx + 1 < B) : Tk w' bx rs bad :=
  ⟨(hb.cell (p := ⟨bx, 0, none⟩) (show bx < B by omega)).trans h.c0, (hb.frozen (p := ⟨bx, 0, none⟩) (show bx < B by omega)).trans h.f0, (hb.cell (p := ⟨bx + 1, 0, none⟩) hB).trans h.c1, (hb.frozen (p := ⟨bx + 1, 0, none⟩) hB).trans h.f1⟩
/-- What take leaves as it was. -/
structure Kp (bx : Nat) (w w' : World) : Prop where
  own : ∀ (base : Nat) (v : Value) (l : List Int), bx + 1 < base → OwnK 50 .u64 w base v l → OwnK 50 .u64 w' base v l
  below : ∀ w0, Below bx w0 w → Below bx w0 w'
  size : w'.heap.size = w.heap.size
set_option maxHeartbeats 1000000 in
theorem take_any (bx n : Nat) (rs : List Bool) (bad : Bool) (w : World) (h : Tk w bx rs bad) (hn : n ≤ 64) (hl : rs.length ≤ 4000) :
    Calls Tryd.prog 53 #[.int .i64 n, .pointer (some ⟨bx, 0, none⟩), .pointer (some ⟨bx + 1, 0, none⟩)] w fun e w' => e = .returned (.string (P.strB (P.tkX rs n))) ∧ Tk w' bx (P.tkR rs n) (P.tkB bad rs n) ∧ Kp bx w w' := by
  have hsz := P.strB_size rs
  have hsz1 := Nat.le_of_eq hsz
  have hsz2 := Nat.le_of_eq hsz.symm
  obtain ⟨c0, f0, c1, f1⟩ := id h
  by_cases hlt : rs.length < n
  · have e1 : P.tkX rs n = [false] := by unfold P.tkX; rw [if_pos hlt]
    have e2 : P.tkR rs n = rs := by unfold P.tkR; rw [if_pos hlt]
    have e3 : P.tkB bad rs n = true := by unfold P.tkB; simp [hlt]
    rw [e1, e2, e3]
    have el : P.strB [false] = ⟨#[48]⟩ := rfl
    rw [el]
    clear e1 e2 e3 hsz el h
    have HC0 := hide c0
    generalize hs : P.strB rs = s at *
    have HS := hide hs
    clear hs
    go_enter Tryd.func53, Tryd.ntmps53
    go_wp2
    go_ret
    refine ⟨rfl, ⟨(World.cell?_setCell_other _ _ _ _ (by simp)).trans ?_, (World.frozen?_setCell _ _ _ _).trans f0, World.cell?_setCell_same _ _ _ c1, (World.frozen?_setCell _ _ _ _).trans f1⟩, ⟨fun base v l hb h => ownsRow_setCell_below h (show bx + 1 < base from hb) _, fun w0 h => h.setCell (show bx ≤ bx + 1 by omega) _, by simp⟩⟩
    rw [← HS.out] at HC0
    exact HC0.out
  · have e1 : P.tkX rs n = rs.take n := by unfold P.tkX; rw [if_neg hlt]
    have e2 : P.tkR rs n = rs.drop n := by unfold P.tkR; rw [if_neg hlt]
    have e3 : P.tkB bad rs n = bad := by unfold P.tkB; simp [hlt]
    rw [e1, e2, e3, ← extract_front]
    have E2 := hide (extract_rest rs n)
    clear e1 e2 e3 hsz h
    generalize P.strB rs = s at *
    have hd : decide ((s.size : Int) < (n : Int)) = false := by simp; omega
    go_enter Tryd.func53, Tryd.ntmps53
    go_wp2
    go_ret
    refine ⟨rfl, ⟨?_, (World.frozen?_setCell _ _ _ _).trans f0, (World.cell?_setCell_other _ _ _ _ (by simp)).trans c1, (World.frozen?_setCell _ _ _ _).trans f1⟩, ⟨fun base v l hb h => ownsRow_setCell_below h (show bx < base by omega) _, fun w0 h => h.setCell (Nat.le_refl _) _, by simp⟩⟩
    rw [← E2.out]
    exact World.cell?_setCell_same _ _ _ c0
/-- MeasuresOf: what it reads. -/
theorem own_cells {t : TypeId} {k : IntKind} {w : World} {base g c : Nat} {l : List Int} (h : OwnK t k w base (.slice (some ⟨g, 0, none⟩) l.length c) l) : ∀ j, j < l.length → w.cell? ⟨g, j, none⟩ = some (.int k (l.getD j 0)) := by
  intro j hj
  obtain ⟨a', c', hv', _, hcase⟩ := h.row
  simp only [Value.slice.injEq] at hv'
  obtain ⟨ha, -, -⟩ := hv'
  rcases hcase with h0 | ⟨b, off, hb, _, hcell⟩
  · rw [h0] at hj; simp at hj
  · rw [← ha] at hb
    simp at hb
    obtain ⟨rfl, rfl⟩ := hb
    have := hcell j hj
    rwa [Nat.zero_add] at this
theorem lst_at (acc : List Int) (h : 0 < acc.length) : P.lst acc acc.length = acc.getD (acc.length - 1) 0 := by unfold P.lst; rw [if_neg (by omega)]
theorem mulT_lt (x k : Nat) : P.mulT x k < 18446744073709551616 := Nat.mod_lt _ (by decide)
theorem mulT_zero (x : Nat) (h : x < 18446744073709551616) : P.mulT x 0 = x := by unfold P.mulT; rw [Nat.pow_zero, Nat.mul_one, Nat.mod_eq_of_lt h]
theorem mulT_succ (x k : Nat) : IntKind.u64.wrap ((P.mulT x k : Int) * 2) = (P.mulT x (k + 1) : Nat) := by
  rw [IntKind.wrap_u64]
  unfold P.mulT
  have e : x * 2 ^ (k + 1) = x * 2 ^ k * 2 := by rw [Nat.pow_succ, Nat.mul_assoc]
  rw [e]
  generalize x * 2 ^ k = z
  omega
theorem nxt_rng {acc : List Int} (h : P.U64 acc) (t : Nat) (ht : t < 18446744073709551616) : 0 ≤ P.nxt acc t ∧ P.nxt acc t ≤ 18446744073709551615 := by
  have h1 := P.lst_lt h
  have := P.xor_lt (P.lst acc acc.length).toNat t (by omega) ht
  unfold P.nxt; omega
theorem val64 (rs : List Bool) (n : Nat) (h : n ≤ 64) : P.val (P.tkX rs n) < 18446744073709551616 := by
  have h1 := P.val_lt (P.tkX rs n)
  have h2 := P.tkX_len rs n h
  have h3 : (2 : Nat) ^ (P.tkX rs n).length ≤ 2 ^ 64 := Nat.pow_le_pow_right (by decide) h2
  omega
/-- What is said of it. -/
def MPost (bs : List Bool) (w : World) (e : Ending) (w' : World) : Prop := Below w.heap.size w w' ∧ ∃ (acc : List Int) (a : Option Addr) (c : Nat) (ok : Bool),
      OwnK 50 .u64 w' w.heap.size (.slice a acc.length c) acc ∧ e = .returned (.tuple #[.slice a acc.length c, .bool ok]) ∧ (ok = true → Isx bs acc) ∧ (∀ m, Isx bs m → acc = m ∧ ok = true)
theorem mpost {bs : List Bool} {w : World} {e : Ending} {w' : World} (h1 : Below w.heap.size w w') (acc : List Int) (a : Option Addr) (c : Nat) (ok : Bool) (h2 : OwnK 50 .u64 w' w.heap.size (.slice a acc.length c) acc) (h3 : e = .returned (.tuple #[.slice a acc.length c, .bool ok])) (h4 : ok = true → Isx bs acc) (h5 : ∀ m, Isx bs m → acc = m ∧ ok = true) : MPost bs w e w' :=
  ⟨h1, acc, a, c, ok, h2, h3, h4, h5⟩
set_option maxRecDepth 100000 in
set_option maxHeartbeats 16000000 in
theorem measuresOf_any (bs : List Bool) (w : World) (hn : bs.length ≤ 4000) :
    Calls Tryd.prog 33 #[.string (P.strB bs)] w fun e w' => MPost bs w e w' := by
  have HTk : Hid (∀ (n : Nat) (rs : List Bool) (bad : Bool) (w' : World), n ≤ 64 → rs.length ≤ 4000 → Tk w' w.heap.size rs bad → Calls Tryd.prog 53 #[.int .i64 n, .pointer (some ⟨w.heap.size, 0, none⟩), .pointer (some ⟨w.heap.size + 1, 0, none⟩)] w' fun e w2 => e = .returned (.string (P.strB (P.tkX rs n))) ∧ Tk w2 w.heap.size (P.tkR rs n) (P.tkB bad rs n) ∧ Kp w.heap.size w' w2) := fun n rs bad w' h1 h2 h3 => take_any w.heap.size n rs bad w' h3 h1 h2
  have hT0 : Tk ((w.alloc (.cells #[.string (P.strB bs)] 9)).alloc (.cells #[.bool false] 4)) w.heap.size bs false := ⟨by simp, by simp, by simp, by simp⟩
  have hb0 := below_two w (.cells #[.string (P.strB bs)] 9) (.cells #[.bool false] 4)
  have hx16 := P.tkX_len bs 16 (by decide)
  have HV16 := hide (fun w => valueOf_any (P.tkX bs 16) w hx16)
  have hC0 := hide (P.cnd_start bs)
  have hr0 := P.tkR_len bs 16
  have hm : P.val (P.tkX bs 16) < 65536 := P.tkX_val bs 16 (by decide)
  have hsall : (P.strB bs).size = bs.length := P.strB_size bs
  clear hx16
  go_enter Tryd.func33, Tryd.ntmps33
  go_wp2_with fail
  generalize World.alloc _ (.cells #[.bool false] 4) = W0 at hT0 hb0 ⊢
  have hl0 := hT0.lt
  refine (HTk.out 16 bs false _ (by decide) hn hT0).mono ?_
  rintro e w2 ⟨rfl, hT2, kp2⟩
  have hb2 := kp2.below _ hb0
  have hl2 := hT2.lt
  generalize P.tkR bs 16 = rs0 at *
  generalize P.tkB false bs 16 = bad0 at *
  generalize P.val (P.tkX bs 16) = many at *
  generalize P.strB (P.tkX bs 16) = sx at *
  clear kp2 hT0 hb0
  go_wp2_with (go_at_call 43; go_must (refine (HV16.out _).mono ?_); rintro e w3 ⟨rfl, rfl⟩)
  clear HV16
  go_loopw [7, 9, 10, 11] (fun vo vl vs i wr => ∃ (acc : List Int) (a : Option Addr) (c : Nat) (rs : List Bool) (bad : Bool) (le sz : Int), acc.length ≤ many ∧ vo = .slice a acc.length c ∧ vl = .int .i64 le ∧ vs = .int .i64 sz ∧ i = .int .i64 acc.length ∧ Tk wr w.heap.size rs bad ∧
      OwnK 50 .u64 wr (w.heap.size + 2) (.slice a acc.length c) acc ∧ Below w.heap.size w wr ∧ Hid (P.U64 acc) ∧ rs.length ≤ 4000 ∧ Hid (P.Cnd bs many acc rs bad le sz) ∧ (-1 ≤ le ∧ le ≤ 63 ∧ 0 ≤ sz ∧ sz ≤ 64)) (fun _ _ _ i _ => many - (intOf i).toNat)
  case atStart => exact ⟨[], none, 0, rs0, bad0, -1, 0, by simp, rfl, rfl, rfl, rfl, hT2, OwnK.nil _ _ _ _, hb2, hide (fun x hx => by cases hx), by omega, hC0, by decide⟩
  case round =>
    clear hT2 hb2 hC0 hr0 hl2
    obtain ⟨acc, a, c, rs, bad, le, sz, hacc, rfl, rfl, rfl, rfl, hT, ho, hb, HU, hrl, HC, hle0, hle1, hsz0, hsz1⟩ := hrel
    have hlT := hT.lt
    by_cases hlt : acc.length < many ∧ bad = false
    · obtain ⟨hlt1, rfl⟩ := hlt
      have hl1 : (acc.length : Int) < (many : Int) := by omega
      obtain ⟨tc0, tf0, tc1, tf1⟩ := id hT
      by_cases hz : acc.length = 0
      · have htest : ((acc.length : Int) == 0) = true := by rw [beq_iff_eq]; omega
        have HC1 := hide (P.cnd_first HC.out hz hlt1)
        have HV := hide (fun w => valueOf_any (P.tkX rs 64) w (P.tkX_len rs 64 (by decide)))
        have hvl := val64 rs 64 (by decide)
        have hrl2 := P.tkR_len rs 64
        have HU1 := hide (P.u64_snoc HU.out (y := ((P.val (P.tkX rs 64) : Nat) : Int)) (by omega) (by omega))
        clear HC HU hz
        go_wp2_with fail
        clear tc0 tf0 tc1 tf1
        refine (HTk.out 64 (rs) (false) _ (by decide) hrl hT).mono ?_
        rintro e w4 ⟨rfl, hT4, kp4⟩
        have ho4 := kp4.own _ _ _ (by omega) ho
        have hb4 := kp4.below _ hb
        have hz4 : wr.heap.size ≤ w4.heap.size := Nat.le_of_eq kp4.size.symm
        clear hT ho hb kp4
        have hs4 : w.heap.size + 2 ≤ w4.heap.size := by omega
        clear HTk
        generalize P.tkR rs 64 = rs' at *
        generalize P.tkB false rs 64 = bad' at *
        generalize P.val (P.tkX rs 64) = x at *
        generalize P.strB (P.tkX rs 64) = s64 at *
        go_wp2_with (first
          | (go_at_call 43; go_must (refine (HV.out _).mono ?_); rintro e w5 ⟨rfl, rfl⟩)
          | (at_builtin; go_must (refine wp_app1K rfl _ _ 39 50 .u64 8 rfl Tryd.underlying39 Tryd.info50 (by decide) (w.heap.size + 2) (w.heap.size + 2) w5 w5 _ acc ((x : Int)) ho4 (Below.refl _ _) (Nat.le_refl _) rfl rfl (by omega) hs4 ?_); intro v' w' hown' hb' hsz' hg'; obtain ⟨a', cap', hv'⟩ := hown'.shape; rw [hv'] at hown' ⊢; clear hv' hg'))
        go_roundw
        case rel =>
          have e1 : (acc ++ [(x : Int)]).length = acc.length + 1 := by simp
          refine ⟨acc ++ [(x : Int)], a', cap', rs', bad', le, sz, by rw [e1]; omega, (by first | rfl | rw [e1]), rfl, rfl, (by rw [e1]; simp), hT4.belowB hb' (by omega), hown', hb4.trans (hb'.mono (by omega)), HU1, (by omega), HC1, ⟨hle0, hle1, hsz0, hsz1⟩⟩
        case measure => simp [intOf]; omega
      · have htest : ((acc.length : Int) == 0) = false := by rw [beq_eq_false_iff_ne]; omega
        have hpos : 0 < acc.length := by omega
        obtain ⟨g, cg, hv⟩ := Joins.ownsRow_form ho hpos
        simp only [Value.slice.injEq] at hv
        obtain ⟨rfl, -, hcc⟩ := hv
        subst hcc
        have hcl := own_cells ho (acc.length - 1) (by omega)
        rw [← lst_at acc hpos] at hcl
        have i0 : (0 : Int) ≤ (acc.length : Int) - 1 := by omega
        have i1 : (acc.length : Int) - 1 < (acc.length : Int) := by omega
        have i2 : ((acc.length : Int) - 1).toNat = acc.length - 1 := by omega
        have HL := hide (P.lst_lt HU.out)
        clear hz
        by_cases hv1 : P.val (rs.take 1) = 1
        · -- the sign 1
          obtain ⟨es1, hrs1⟩ := P.tk_one rs hv1
          have hT1' : ∀ w', Tk w' w.heap.size rs false → Calls Tryd.prog 53 #[.int .i64 1, .pointer (some ⟨w.heap.size, 0, none⟩), .pointer (some ⟨w.heap.size + 1, 0, none⟩)] w' fun e w2 => e = .returned (.string ⟨#[49]⟩) ∧ Tk w2 w.heap.size (P.tkR rs 1) (P.tkB false rs 1) ∧ Kp w.heap.size w' w2 := by
            intro w' h
            have := HTk.out 1 rs false w' (by decide) hrl h
            rw [es1] at this
            exact this
          replace hT1' := hide hT1'
          have hrl1 := P.tkR_len rs 1
          have hrd1 : P.tkR rs 1 = rs.drop 1 := (P.tk_full hrs1 false).2.1
          by_cases hv2 : P.val ((rs.drop 1).take 1) = 1
          · -- 11
            have es2 : P.strB (P.tkX (P.tkR rs 1) 1) = ⟨#[49]⟩ := by rw [hrd1]; exact (P.tk_one _ hv2).1
            have hT2' : ∀ w', Tk w' w.heap.size (P.tkR rs 1) (P.tkB false rs 1) → Calls Tryd.prog 53 #[.int .i64 1, .pointer (some ⟨w.heap.size, 0, none⟩), .pointer (some ⟨w.heap.size + 1, 0, none⟩)] w' fun e w2 => e = .returned (.string ⟨#[49]⟩) ∧ Tk w2 w.heap.size (P.tkR (P.tkR rs 1) 1) (P.tkB (P.tkB false rs 1) (P.tkR rs 1) 1) ∧ Kp w.heap.size w' w2 := by
              intro w' h
              have := HTk.out 1 (P.tkR rs 1) (P.tkB false rs 1) w' (by decide) (by omega) h
              rw [es2] at this
              exact this
            replace hT2' := hide hT2'
            have hrl2 := P.tkR_len (P.tkR rs 1) 1
            obtain ⟨pa, hpa⟩ : ∃ pa, pa = P.val (P.tkX (P.tkR (P.tkR rs 1) 1) 6) := ⟨_, rfl⟩
            obtain ⟨ps, hps⟩ : ∃ ps, ps = P.val (P.tkX (P.tkR (P.tkR (P.tkR rs 1) 1) 6) 6) + 1 := ⟨_, rfl⟩
            have hpa1 : pa < 64 := by rw [hpa]; exact P.tkX_val _ 6 (by decide)
            have hps1 : ps ≤ 64 := by have := P.tkX_val (P.tkR (P.tkR (P.tkR rs 1) 1) 6) 6 (by decide); omega
            have hps0 : 1 ≤ ps := by omega
            have HNo0 := hide (fun he => P.cnd_new_none HC.out hpos hlt1 hv1 hv2 _ _ rfl rfl pa ps hpa hps he)
            have HCf := hide (P.cnd_new HC.out hpos hlt1 hv1 hv2 _ _ _ rfl rfl rfl _ rfl pa ps hpa hps)
            have HVa : Hid (∀ w : World, Calls Tryd.prog 43 #[.string (P.strB (P.tkX (P.tkR (P.tkR rs 1) 1) 6))] w fun e w' => e = .returned (.int .u64 (pa : Nat)) ∧ w' = w) := by
              intro w; rw [hpa]; exact valueOf_any _ w (P.tkX_len _ 6 (by decide))
            have HVb : Hid (∀ w : World, Calls Tryd.prog 43 #[.string (P.strB (P.tkX (P.tkR (P.tkR (P.tkR rs 1) 1) 6) 6))] w fun e w' => e = .returned (.int .u64 ((ps : Int) - 1)) ∧ w' = w) := by
              intro w
              have h := valueOf_any _ w (P.tkX_len (P.tkR (P.tkR (P.tkR rs 1) 1) 6) 6 (by decide))
              have e : ((P.val (P.tkX (P.tkR (P.tkR (P.tkR rs 1) 1) 6) 6) : Nat) : Int) = (ps : Int) - 1 := by omega
              rw [e] at h
              exact h
            clear hpa hps
            have hrl3 := P.tkR_len (P.tkR (P.tkR rs 1) 1) 6
            have hrl4 := P.tkR_len (P.tkR (P.tkR (P.tkR rs 1) 1) 6) 6
            have HTa := hide (fun w' (h : Tk w' w.heap.size (P.tkR (P.tkR rs 1) 1) (P.tkB (P.tkB false rs 1) (P.tkR rs 1) 1)) => HTk.out 6 _ _ w' (by decide) (by omega) h)
            have HTb := hide (fun w' (h : Tk w' w.heap.size (P.tkR (P.tkR (P.tkR rs 1) 1) 6) (P.tkB (P.tkB (P.tkB false rs 1) (P.tkR rs 1) 1) (P.tkR (P.tkR rs 1) 1) 6)) => HTk.out 6 _ _ w' (by decide) (by omega) h)
            generalize P.strB (P.tkX (P.tkR (P.tkR (P.tkR rs 1) 1) 6) 6) = sb6 at *
            generalize P.strB (P.tkX (P.tkR (P.tkR rs 1) 1) 6) = sa6 at *
            generalize P.tkB (P.tkB (P.tkB (P.tkB false rs 1) (P.tkR rs 1) 1) (P.tkR (P.tkR rs 1) 1) 6) (P.tkR (P.tkR (P.tkR rs 1) 1) 6) 6 = bad4 at *
            generalize P.tkR (P.tkR (P.tkR (P.tkR rs 1) 1) 6) 6 = rs4 at *
            generalize P.tkB (P.tkB (P.tkB false rs 1) (P.tkR rs 1) 1) (P.tkR (P.tkR rs 1) 1) 6 = bad3 at *
            generalize P.tkR (P.tkR (P.tkR rs 1) 1) 6 = rs3 at *
            generalize hbd2 : P.tkB (P.tkB false rs 1) (P.tkR rs 1) 1 = bad2 at *
            generalize hrs2 : P.tkR (P.tkR rs 1) 1 = rs2 at *
            generalize P.tkR rs 1 = rs1 at *
            generalize P.tkB false rs 1 = bad1 at *
            clear hv1 hv2 es1 es2 hrd1 hrs1 hrs2 hbd2
            go_wp2_with fail
            clear tc0 tf0 tc1 tf1
            refine (hT1'.out _ hT).mono ?_
            rintro e w4 ⟨rfl, hT4, kp4⟩
            have ho4 := kp4.own _ _ _ (by omega) ho
            have hb4 := kp4.below _ hb
            have hz4 : wr.heap.size ≤ w4.heap.size := Nat.le_of_eq kp4.size.symm
            clear hT ho hb kp4 hT1'
            go_wp2_with fail
            refine (hT2'.out _ hT4).mono ?_
            rintro e w6 ⟨rfl, hT6, kp6⟩
            have ho6 := kp6.own _ _ _ (by omega) ho4
            have hb6 := kp6.below _ hb4
            have hz6 : w4.heap.size ≤ w6.heap.size := Nat.le_of_eq kp6.size.symm
            clear hT4 ho4 hb4 kp6 hT2'
            go_wp2_with fail
            refine (HTa.out _ hT6).mono ?_
            rintro e w7 ⟨rfl, hT7, kp7⟩
            have ho7 := kp7.own _ _ _ (by omega) ho6
            have hb7 := kp7.below _ hb6
            have hz7 : w6.heap.size ≤ w7.heap.size := Nat.le_of_eq kp7.size.symm
            clear hT6 ho6 hb6 kp7 HTa
            go_wp2_with (go_at_call 43; go_must (refine (HVa.out _).mono ?_); rintro e w9 ⟨rfl, rfl⟩)
            refine (HTb.out _ hT7).mono ?_
            rintro e w12 ⟨rfl, hT12, kp12⟩
            have ho12 := kp12.own _ _ _ (by omega) ho7
            have hb12 := kp12.below _ hb7
            have hz12 : w9.heap.size ≤ w12.heap.size := Nat.le_of_eq kp12.size.symm
            clear hT7 ho7 hb7 kp12 HTb
            have hd : decide ((pa : Int) < 0) = false := by simp
            by_cases he2 : 64 < pa + ps
            · have HNo := hide (HNo0.out he2)
              have hd2 : decide (64 < (pa : Int) + (ps : Int)) = true := by simp; omega
              clear HC HU HL HCf HNo0
              go_wp2_with (go_at_call 43; go_must (refine (HVb.out _).mono ?_); rintro e w13 ⟨rfl, rfl⟩)
              go_ret2
              exact mpost hb12 [] none 0 false (OwnK.nil _ _ _ _) rfl (fun h => by cases h) (fun m hm => absurd hm (HNo.out m))
            · have hd2 : decide (64 < (pa : Int) + (ps : Int)) = false := by simp; omega
              clear HNo0
              have HV := hide (fun w => valueOf_any (P.tkX rs4 ps) w (P.tkX_len rs4 ps (by omega)))
              have hvl := val64 rs4 ps (by omega)
              have hrl9 := P.tkR_len rs4 ps
              have HU1 := hide (fun (t : Nat) ht => P.u64_snoc HU.out (nxt_rng HU.out t ht).1 (nxt_rng HU.out t ht).2)
              have HX := hide (fun t ht => u64_nxt HU.out t ht)
              clear HU HC HL
              go_wp2_with (go_at_call 43; refine (HVb.out _).mono ?_; rintro e w13 ⟨rfl, rfl⟩)
              refine (HTk.out ps rs4 bad4 _ (by omega) (by omega) hT12).mono ?_
              rintro e w8 ⟨rfl, hT8, kp8⟩
              have ho8 := kp8.own _ _ _ (by omega) ho12
              have hb8 := kp8.below _ hb12
              have hs8 : w.heap.size + 2 ≤ w8.heap.size := by have := Nat.le_of_eq kp8.size.symm; omega
              clear hT12 ho12 hb12 kp8 HTk
              generalize P.tkR rs4 ps = rs9 at *
              generalize P.tkB bad4 rs4 ps = bad9 at *
              generalize P.val (P.tkX rs4 ps) = x at *
              generalize P.strB (P.tkX rs4 ps) = sx9 at *
              generalize P.lst acc acc.length = la at *
              go_wp2_with (go_at_call 43; go_must (refine (HV.out _).mono ?_); rintro e w10 ⟨rfl, rfl⟩)
              go_loop [13, 73] (fun t i => ∃ k : Nat, k ≤ 64 - pa - ps ∧ i = .int .i64 k ∧ t = .int .u64 (P.mulT x k : Nat)) (fun _ i => 64 - pa - ps - (intOf i).toNat)
              case atStart => exact ⟨0, by omega, rfl, by rw [mulT_zero x hvl]⟩
              case round =>
                obtain ⟨k, hk, rfl, rfl⟩ := hrel
                by_cases hkl : k < 64 - pa - ps
                · have k1 : (k : Int) < 64 - (pa : Int) - (ps : Int) := by omega
                  have hmu := mulT_succ x k
                  have hy1 := mulT_lt x k
                  have HN1 : Hid (P.mulT x (k + 1) = P.mulT x (k + 1)) := rfl
                  generalize hY2 : P.mulT x (k + 1) = y2 at hmu
                  have HY2 := hide hY2
                  clear hY2 HN1
                  generalize P.mulT x k = y1 at hmu hy1 ⊢
                  go_wp2
                  go_round
                  case rel => exact ⟨k + 1, by omega, by go_num, by rw [HY2.out]⟩
                  case measure => simp [intOf]; omega
                · obtain rfl : k = 64 - pa - ps := by omega
                  have k1 : decide (((64 - pa - ps : Nat) : Int) < 64 - (pa : Int) - (ps : Int)) = false := by simp; omega
                  have ht9 := mulT_lt x (64 - pa - ps)
                  have HXt := hide (HX.out _ ht9)
                  have HUt := hide (HU1.out _ ht9)
                  generalize P.mulT x (64 - pa - ps) = t9 at *
                  generalize P.nxt acc t9 = y at *
                  generalize 64 - pa - ps = N9 at *
                  rw [← HXt.out] at HUt HCf
                  clear HX HU1 HV hvl HXt
                  go_wp2_with (at_builtin; go_must (refine wp_app1K rfl _ _ 39 50 .u64 8 rfl Tryd.underlying39 Tryd.info50 (by decide) (w.heap.size + 2) (w.heap.size + 2) w10 w10 _ acc (bits BinOp.xor IntKind.u64 la (t9 : Int)) ho8 (Below.refl _ _) (Nat.le_refl _) rfl rfl (by omega) hs8 ?_); intro v' w' hown' hb' hsz' hg'; obtain ⟨a', cap', hv'⟩ := hown'.shape; rw [hv'] at hown' ⊢; clear hv' hg')
                  go_roundw
                  case rel =>
                    have e1 : (acc ++ [bits BinOp.xor IntKind.u64 la (t9 : Int)]).length = acc.length + 1 := by simp
                    refine ⟨acc ++ [bits BinOp.xor IntKind.u64 la (t9 : Int)], a', cap', rs9, bad9, pa, ps, by rw [e1]; omega, (by first | rfl | rw [e1]), rfl, rfl, (by rw [e1]; simp), hT8.belowB hb' (by omega), hown', hb8.trans (hb'.mono (by omega)), HUt, (by omega), HCf, ⟨by omega, by omega, by omega, by omega⟩⟩
                  case measure => simp [intOf]; omega
          · -- 10, or nothing behind the 1
            have es2 : P.strB (P.tkX (P.tkR rs 1) 1) = ⟨#[48]⟩ := by rw [hrd1]; exact P.tk_zero _ hv2
            have hT2' : ∀ w', Tk w' w.heap.size (P.tkR rs 1) (P.tkB false rs 1) → Calls Tryd.prog 53 #[.int .i64 1, .pointer (some ⟨w.heap.size, 0, none⟩), .pointer (some ⟨w.heap.size + 1, 0, none⟩)] w' fun e w2 => e = .returned (.string ⟨#[48]⟩) ∧ Tk w2 w.heap.size (P.tkR (P.tkR rs 1) 1) (P.tkB (P.tkB false rs 1) (P.tkR rs 1) 1) ∧ Kp w.heap.size w' w2 := by
              intro w' h
              have := HTk.out 1 (P.tkR rs 1) (P.tkB false rs 1) w' (by decide) (by omega) h
              rw [es2] at this
              exact this
            replace hT2' := hide hT2'
            have hrl2 := P.tkR_len (P.tkR rs 1) 1
            have HNo0 := hide (fun he => P.cnd_hold_none HC.out HU.out hpos hlt1 hv1 hv2 he)
            have HCf0 : Hid (∀ pa ps : Nat, le = pa → sz = ps → P.Cnd bs many (acc ++ [P.nxt acc (P.mulT (P.val (P.tkX (P.tkR (P.tkR rs 1) 1) ps)) (64 - pa - ps))]) (P.tkR (P.tkR (P.tkR rs 1) 1) ps) (P.tkB (P.tkB (P.tkB false rs 1) (P.tkR rs 1) 1) (P.tkR (P.tkR rs 1) 1) ps) pa ps) := by
              intro pa ps h1 h2
              have h := HC.out
              rw [h1, h2] at h
              exact P.cnd_hold h HU.out hpos hlt1 hv1 hv2 _ rfl _ rfl
            generalize hrs2 : P.tkR (P.tkR rs 1) 1 = rs2 at *
            generalize hbd2 : P.tkB (P.tkB false rs 1) (P.tkR rs 1) 1 = bad2 at *
            generalize P.tkR rs 1 = rs1 at *
            generalize P.tkB false rs 1 = bad1 at *
            clear hv1 hv2 es1 es2 hrd1 hrs1 hrs2 hbd2
            go_wp2_with fail
            clear tc0 tf0 tc1 tf1
            refine (hT1'.out _ hT).mono ?_
            rintro e w4 ⟨rfl, hT4, kp4⟩
            have ho4 := kp4.own _ _ _ (by omega) ho
            have hb4 := kp4.below _ hb
            have hz4 : wr.heap.size ≤ w4.heap.size := Nat.le_of_eq kp4.size.symm
            clear hT ho hb kp4 hT1'
            go_wp2_with fail
            refine (hT2'.out _ hT4).mono ?_
            rintro e w6 ⟨rfl, hT6, kp6⟩
            have ho6 := kp6.own _ _ _ (by omega) ho4
            have hb6 := kp6.below _ hb4
            have hz6 : w4.heap.size ≤ w6.heap.size := Nat.le_of_eq kp6.size.symm
            clear hT4 ho4 hb4 kp6 hT2'
            by_cases he : le < 0
            · have HNo := hide (HNo0.out (.inl he))
              have hd : decide (le < 0) = true := by simp; exact he
              clear HC HU HL HCf0 HNo0
              go_wp2
              go_ret2
              exact mpost hb6 [] none 0 false (OwnK.nil _ _ _ _) rfl (fun h => by cases h) (fun m hm => absurd hm (HNo.out m))
            · obtain ⟨pa, rfl⟩ := Int.eq_ofNat_of_zero_le (show 0 ≤ le by omega)
              obtain ⟨ps, rfl⟩ := Int.eq_ofNat_of_zero_le hsz0
              have hd : decide ((pa : Int) < 0) = false := by simp
              by_cases he2 : 64 < pa + ps
              · have HNo := hide (HNo0.out (.inr (by omega)))
                have hd2 : decide (64 < (pa : Int) + (ps : Int)) = true := by simp; omega
                clear HC HU HL HCf0 HNo0
                go_wp2
                go_ret2
                exact mpost hb6 [] none 0 false (OwnK.nil _ _ _ _) rfl (fun h => by cases h) (fun m hm => absurd hm (HNo.out m))
              · have hd2 : decide (64 < (pa : Int) + (ps : Int)) = false := by simp; omega
                have HCf := hide (HCf0.out pa ps rfl rfl)
                clear HCf0 HNo0
                have HV := hide (fun w => valueOf_any (P.tkX rs2 ps) w (P.tkX_len rs2 ps (by omega)))
                have hvl := val64 rs2 ps (by omega)
                have hrl9 := P.tkR_len rs2 ps
                have HU1 := hide (fun (t : Nat) ht => P.u64_snoc HU.out (nxt_rng HU.out t ht).1 (nxt_rng HU.out t ht).2)
                have HX := hide (fun t ht => u64_nxt HU.out t ht)
                clear HU HC HL
                go_wp2_with fail
                refine (HTk.out ps rs2 bad2 _ (by omega) (by omega) hT6).mono ?_
                rintro e w8 ⟨rfl, hT8, kp8⟩
                have ho8 := kp8.own _ _ _ (by omega) ho6
                have hb8 := kp8.below _ hb6
                have hs8 : w.heap.size + 2 ≤ w8.heap.size := by have := Nat.le_of_eq kp8.size.symm; omega
                clear hT6 ho6 hb6 kp8 HTk
                generalize P.tkR rs2 ps = rs9 at *
                generalize P.tkB bad2 rs2 ps = bad9 at *
                generalize P.val (P.tkX rs2 ps) = x at *
                generalize P.strB (P.tkX rs2 ps) = sx9 at *
                generalize P.lst acc acc.length = la at *
                go_wp2_with (go_at_call 43; go_must (refine (HV.out _).mono ?_); rintro e w10 ⟨rfl, rfl⟩)
                go_loop [13, 73] (fun t i => ∃ k : Nat, k ≤ 64 - pa - ps ∧ i = .int .i64 k ∧ t = .int .u64 (P.mulT x k : Nat)) (fun _ i => 64 - pa - ps - (intOf i).toNat)
                case atStart => exact ⟨0, by omega, rfl, by rw [mulT_zero x hvl]⟩
                case round =>
                  obtain ⟨k, hk, rfl, rfl⟩ := hrel
                  by_cases hkl : k < 64 - pa - ps
                  · have k1 : (k : Int) < 64 - (pa : Int) - (ps : Int) := by omega
                    have hmu := mulT_succ x k
                    have hy1 := mulT_lt x k
                    have HN1 : Hid (P.mulT x (k + 1) = P.mulT x (k + 1)) := rfl
                    generalize hY2 : P.mulT x (k + 1) = y2 at hmu
                    have HY2 := hide hY2
                    clear hY2 HN1
                    generalize P.mulT x k = y1 at hmu hy1 ⊢
                    go_wp2
                    go_round
                    case rel => exact ⟨k + 1, by omega, by go_num, by rw [HY2.out]⟩
                    case measure => simp [intOf]; omega
                  · obtain rfl : k = 64 - pa - ps := by omega
                    have k1 : decide (((64 - pa - ps : Nat) : Int) < 64 - (pa : Int) - (ps : Int)) = false := by simp; omega
                    have ht9 := mulT_lt x (64 - pa - ps)
                    have HXt := hide (HX.out _ ht9)
                    have HUt := hide (HU1.out _ ht9)
                    generalize P.mulT x (64 - pa - ps) = t9 at *
                    generalize P.nxt acc t9 = y at *
                    generalize 64 - pa - ps = N9 at *
                    rw [← HXt.out] at HUt HCf
                    clear HX HU1 HV hvl HXt
                    go_wp2_with (at_builtin; go_must (refine wp_app1K rfl _ _ 39 50 .u64 8 rfl Tryd.underlying39 Tryd.info50 (by decide) (w.heap.size + 2) (w.heap.size + 2) w10 w10 _ acc (bits BinOp.xor IntKind.u64 la (t9 : Int)) ho8 (Below.refl _ _) (Nat.le_refl _) rfl rfl (by omega) hs8 ?_); intro v' w' hown' hb' hsz' hg'; obtain ⟨a', cap', hv'⟩ := hown'.shape; rw [hv'] at hown' ⊢; clear hv' hg')
                    go_roundw
                    case rel =>
                      have e1 : (acc ++ [bits BinOp.xor IntKind.u64 la (t9 : Int)]).length = acc.length + 1 := by simp
                      refine ⟨acc ++ [bits BinOp.xor IntKind.u64 la (t9 : Int)], a', cap', rs9, bad9, pa, ps, by rw [e1]; omega, (by first | rfl | rw [e1]), rfl, rfl, (by rw [e1]; simp), hT8.belowB hb' (by omega), hown', hb8.trans (hb'.mono (by omega)), HUt, (by omega), HCf, ⟨by omega, by omega, by omega, by omega⟩⟩
                    case measure => simp [intOf]; omega
        · -- the sign 0, or none
          have HC1 := hide (P.cnd_zero HC.out HU.out hpos hlt1 hv1)
          have hT1' : ∀ w', Tk w' w.heap.size rs false → Calls Tryd.prog 53 #[.int .i64 1, .pointer (some ⟨w.heap.size, 0, none⟩), .pointer (some ⟨w.heap.size + 1, 0, none⟩)] w' fun e w2 => e = .returned (.string ⟨#[48]⟩) ∧ Tk w2 w.heap.size (P.tkR rs 1) (P.tkB false rs 1) ∧ Kp w.heap.size w' w2 := by
            intro w' h
            have := HTk.out 1 rs false w' (by decide) hrl h
            rw [P.tk_zero rs hv1] at this
            exact this
          replace hT1' := hide hT1'
          have hrl1 := P.tkR_len rs 1
          have HU1 := hide (P.u64_snoc HU.out HL.out.1 HL.out.2)
          generalize P.lst acc acc.length = la at *
          generalize P.tkR rs 1 = rs' at *
          generalize P.tkB false rs 1 = bad' at *
          clear HC HU hv1 HL
          go_wp2_with fail
          clear tc0 tf0 tc1 tf1
          refine (hT1'.out _ hT).mono ?_
          rintro e w4 ⟨rfl, hT4, kp4⟩
          have ho4 := kp4.own _ _ _ (by omega) ho
          have hb4 := kp4.below _ hb
          have hz4 : wr.heap.size ≤ w4.heap.size := Nat.le_of_eq kp4.size.symm
          have hs4 : w.heap.size + 2 ≤ w4.heap.size := by omega
          clear hT ho hb kp4 HTk hT1' hcl
          go_wp2_with (at_builtin; go_must (refine wp_app1K rfl _ _ 39 50 .u64 8 rfl Tryd.underlying39 Tryd.info50 (by decide) (w.heap.size + 2) (w.heap.size + 2) w4 w4 _ acc (la) ho4 (Below.refl _ _) (Nat.le_refl _) rfl rfl (by omega) hs4 ?_); intro v' w' hown' hb' hsz' hg'; obtain ⟨a', cap', hv'⟩ := hown'.shape; rw [hv'] at hown' ⊢; clear hv' hg')
          go_roundw
          case rel =>
            have e1 : (acc ++ [la]).length = acc.length + 1 := by simp
            refine ⟨acc ++ [la], a', cap', rs', bad', le, sz, by rw [e1]; omega, (by first | rfl | rw [e1]), rfl, rfl, (by rw [e1]; simp), hT4.belowB hb' (by omega), hown', hb4.trans (hb'.mono (by omega)), HU1, (by omega), HC1, ⟨hle0, hle1, hsz0, hsz1⟩⟩
          case measure => simp [intOf]; omega
    · have hdone : many ≤ acc.length ∨ bad = true := by
        rcases Nat.lt_or_ge acc.length many with h | h
        · right
          cases hbd : bad with
          | true => rfl
          | false => exact absurd ⟨h, hbd⟩ hlt
        · exact .inl h
      have HE := hide (fun m hm => P.cnd_end HC.out hacc hdone m hm)
      have hlow : w.heap.size ≤ w.heap.size + 2 := by omega
      have hoL := OwnK.base ho hlow
      obtain ⟨tc0, tf0, tc1, tf1⟩ := id hT
      have HSm := hide (fun (v : Value) (w : World) (hr : RowK .u64 w v acc) (h1000 : acc.length ≤ 1000) => measureSigns_any v acc w hr HU.out h1000)
      cases bad with
      | true =>
        clear HC hlt
        by_cases hl : acc.length < many
        · have hl1 : (acc.length : Int) < (many : Int) := by omega
          clear hdone
          go_wp2
          go_ret2
          exact mpost hb acc a c false hoL rfl (fun h => by cases h) (fun m hm => (by have := (HE.out m hm).2; cases this))
        · have hl1 : decide ((acc.length : Int) < (many : Int)) = false := by simp; omega
          clear hdone
          go_wp2
          go_ret2
          exact mpost hb acc a c false hoL rfl (fun h => by cases h) (fun m hm => (by have := (HE.out m hm).2; cases this))
      | false =>
        have hl : many ≤ acc.length := by rcases hdone with h | h; exact h; cases h
        have hl1 : decide ((acc.length : Int) < (many : Int)) = false := by simp; omega
        clear HC hlt hdone
        by_cases h1000 : acc.length ≤ 1000
        · have h1 : (acc.length : Int) ≤ 1000 := by omega
          by_cases hpk : P.packT acc = bs
          · have HI : Hid (Isx bs acc) := ⟨h1000, HU.out, hpk.symm⟩
            have hst : ((P.strB (P.packT acc)).toList == (P.strB bs).toList) = true := by rw [hpk]; simp
            generalize P.strB (P.packT acc) = sp at *
            clear hpk
            go_wp2_with (go_at_call 23; go_must (refine (HSm.out _ _ ho.row h1000).mono ?_); rintro e w4 ⟨rfl, rfl⟩)
            go_ret2
            exact mpost hb acc a c true hoL rfl (fun _ => HI.out) (fun m hm => ⟨(HE.out m hm).1, rfl⟩)
          · have hst : ((P.strB (P.packT acc)).toList == (P.strB bs).toList) = false := by rw [beq_eq_false_iff_ne]; intro e; exact hpk (strB_inj _ _ e)
            have HNo : Hid (∀ m, ¬ Isx bs m) := by
              intro m hm
              have := (HE.out m hm).1
              subst this
              exact hpk hm.2.2.symm
            generalize P.strB (P.packT acc) = sp at *
            clear hpk
            go_wp2_with (go_at_call 23; go_must (refine (HSm.out _ _ ho.row h1000).mono ?_); rintro e w4 ⟨rfl, rfl⟩)
            go_ret2
            exact mpost hb acc a c false hoL rfl (fun h => by cases h) (fun m hm => absurd hm (HNo.out m))
        · have h1 : decide ((acc.length : Int) ≤ 1000) = false := by simp; omega
          have HNo : Hid (∀ m, ¬ Isx bs m) := by
            intro m hm
            have := (HE.out m hm).1
            subst this
            exact h1000 hm.1
          clear h1000 hsall
          go_wp2
          go_ret2
          exact mpost hb acc a c false hoL rfl (fun h => by cases h) (fun m hm => absurd hm (HNo.out m))
end X
end Go.Proofs.YtfjbdgkdkbcnhaaDoor
