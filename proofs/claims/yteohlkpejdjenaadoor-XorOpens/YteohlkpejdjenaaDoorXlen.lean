/- The listed table math/bits.deBruijn64tab; what math/bits.Len64, LeadingZeros64 and TrailingZeros64 answer; windows. -/
import Derived.Test.YteohlkpejdjenaaDoorFrame
import Derived.Test.YteohlkpejdjenaaDoorCards
import Derived.Test.YteohlkpejdjenaaDoorTie
import Derived.Deep.DeepHandedRow
import Derived.Lib.LaidTab
import Derived.Lib.TrailingZeros
import Derived.Lib.BitFns
import Derived.Deep.Light
import Derived.Laws.BitsAllLaws
import Derived.Deep.QuietTactic
import Derived.BigQuiet
namespace Go.Proofs.YteohlkpejdjenaaDoor
open Go.ChangeShapes Go.WideShapes Go.ChangeAt Go.RowKit Go.Joins
set_option linter.unusedVariables false

theorem gTab : Tryd.prog.globalNamed "math/bits.deBruijn64tab" = some 0 := by kernel_rfl
theorem gTabType : (Tryd.prog.globals[0]?).map (·.type) = some 88 := by kernel_rfl
theorem cells88 : Tryd.prog.cellsOf 88 = 64 := by kernel_rfl
def tabZs : List Int := Lib.deBruijn64tab.map fun (n : Nat) => (n : Int)
def Tab (w : World) : Prop := 0 < w.heap.size ∧ ∀ i : Nat, i < 64 → w.cell? ⟨0, i, none⟩ = some (.int .u8 (Lib.deBruijn64tab.getD i 0 : Nat))
theorem Tab.below {w w' : World} {B : Nat} (h : Tab w) (hb : Below B w w') (hB : 0 < B) : Tab w' :=
  ⟨Nat.lt_of_lt_of_le h.1 hb.size, fun i hi => (hb.cell (p := ⟨0, i, none⟩) hB).trans (h.2 i hi)⟩
theorem Tab.next {w w' : World} (h : Tab w) (hb : Below w.heap.size w w') : Tab w' := h.below hb h.1
theorem tab_at (i : Nat) (hi : i < 64) : tabZs.getD i 0 = (Lib.deBruijn64tab.getD i 0 : Nat) := by
  have h : ∀ k : Fin 64, tabZs.getD k.val 0 = (Lib.deBruijn64tab.getD k.val 0 : Nat) := by decide +kernel
  exact h ⟨i, hi⟩
theorem laid_of {W : World} (h : laidMetH Tryd.prog [("math/bits.deBruijn64tab", Rows.laid_math_bits_deBruijn64tab)] W) : Tab W := by
  rw [MakeChecks.laidMetH_plain _ _ _ (by kernel_rfl)] at h
  have h2 : laidMet Tryd.prog [("math/bits.deBruijn64tab", Lib.tabData .u8 tabZs)] W := h
  have h3 := Lib.tabIs_of_head gTab gTabType Tryd.underlying88 Tryd.underlying5 cells5 cells88 h2
  have h4 : ∀ i : Nat, i < 64 → W.cell? ⟨0, i, none⟩ = some (.int .u8 (Lib.deBruijn64tab.getD i 0 : Nat)) := by
    intro i hi
    rw [← tab_at i hi]
    exact h3.cell gTab i hi
  exact ⟨World.block_lt_of_cell? W _ (h4 0 (by decide)), h4⟩
/-- A world for the witness: the settled one, the table holding what its initialiser lays. -/
noncomputable def laidWorld (os : Os) : World :=
  { World.holding Tryd.prog os ⟨#[], #[], []⟩ with heap := (World.holding Tryd.prog os ⟨#[], #[], []⟩).heap.modify 0 fun
      | .cells _ t frozen => .cells (tabZs.map (Value.int .u8)).toArray t frozen
      | o => o }

theorem wrap_add (k a b : Nat) (hk : k ≤ 56) (ha : a ≤ 8) (hb : b = k + a) : wrap64 ((k : Int) + wrap64 (a : Int)) = (b : Int) := by
  unfold wrap64
  omega
theorem wrap_wrap (a : Nat) (ha : a ≤ 8) : wrap64 (wrap64 (a : Int)) = (a : Int) := by
  unfold wrap64
  omega
theorem wrap_one (a : Nat) (ha : a ≤ 8) : wrap64 (a : Int) = (a : Int) := by
  unfold wrap64
  omega
theorem len8_get (y : Int) (h : y.toNat < Lib.len8tab.size) : ((Lib.len8tab[y.toNat]'h).toNat : Int) = Lib.len8 y := by
  unfold Lib.len8
  rw [getElem?_pos Lib.len8tab y.toNat h]
  rfl
set_option maxHeartbeats 32000000 in
set_option maxRecDepth 1000000 in
theorem len64_any (x : Int) (w : World) (h0 : 0 ≤ x) (h1 : x ≤ 18446744073709551615) :
    Calls Tryd.prog 53 #[.int .u64 x] w fun e w' => e = .returned (.int .i64 (Lib.bitLen x.toNat)) ∧ w' = w := by
  go_enter Tryd.func53, Tryd.ntmps53
  go_wp2
  all_goals first
    | (go_ret; refine ⟨congrArg Ending.returned (congrArg (Value.int IntKind.i64) ?_), rfl⟩; go_light)
    | (exfalso
       go_light
       have hs := Lib.len8tab_size
       omega)
  all_goals first
    | (rw [len8_get (x / 4294967296 / 65536 / 256) _, Lib.len8_of (x / 4294967296 / 65536 / 256) (by omega) (by omega)]
       have e : (x / 4294967296 / 65536 / 256).toNat = x.toNat / 72057594037927936 := by omega
       have l := Lib.bitLen_le8' (x / 4294967296 / 65536 / 256) (by omega) (by omega)
       have s := Lib.bitLen_shift56 x.toNat (by omega) (by omega)
       rw [e] at l ⊢
       exact wrap_add 56 _ _ (by decide) l s)
    | (rw [len8_get (x / 4294967296 / 65536) _, Lib.len8_of (x / 4294967296 / 65536) (by omega) (by omega)]
       have e : (x / 4294967296 / 65536).toNat = x.toNat / 281474976710656 := by omega
       have l := Lib.bitLen_le8' (x / 4294967296 / 65536) (by omega) (by omega)
       have s := Lib.bitLen_shift48 x.toNat (by omega) (by omega)
       rw [e] at l ⊢
       exact wrap_add 48 _ _ (by decide) l s)
    | (rw [len8_get (x / 4294967296 / 256) _, Lib.len8_of (x / 4294967296 / 256) (by omega) (by omega)]
       have e : (x / 4294967296 / 256).toNat = x.toNat / 1099511627776 := by omega
       have l := Lib.bitLen_le8' (x / 4294967296 / 256) (by omega) (by omega)
       have s := Lib.bitLen_shift40 x.toNat (by omega) (by omega)
       rw [e] at l ⊢
       exact wrap_add 40 _ _ (by decide) l s)
    | (rw [len8_get (x / 4294967296) _, Lib.len8_of (x / 4294967296) (by omega) (by omega)]
       have e : (x / 4294967296).toNat = x.toNat / 4294967296 := by omega
       have l := Lib.bitLen_le8' (x / 4294967296) (by omega) (by omega)
       have s := Lib.bitLen_shift32 x.toNat (by omega) (by omega)
       rw [e] at l ⊢
       exact wrap_add 32 _ _ (by decide) l s)
    | (rw [len8_get (x / 65536 / 256) _, Lib.len8_of (x / 65536 / 256) (by omega) (by omega)]
       have e : (x / 65536 / 256).toNat = x.toNat / 16777216 := by omega
       have l := Lib.bitLen_le8' (x / 65536 / 256) (by omega) (by omega)
       have s := Lib.bitLen_shift24 x.toNat (by omega) (by omega)
       rw [e] at l ⊢
       exact wrap_add 24 _ _ (by decide) l s)
    | (rw [len8_get (x / 65536) _, Lib.len8_of (x / 65536) (by omega) (by omega)]
       have e : (x / 65536).toNat = x.toNat / 65536 := by omega
       have l := Lib.bitLen_le8' (x / 65536) (by omega) (by omega)
       have s := Lib.bitLen_shift16 x.toNat (by omega) (by omega)
       rw [e] at l ⊢
       exact wrap_add 16 _ _ (by decide) l s)
    | (rw [len8_get (x / 256) _, Lib.len8_of (x / 256) (by omega) (by omega)]
       have e : (x / 256).toNat = x.toNat / 256 := by omega
       have l := Lib.bitLen_le8' (x / 256) (by omega) (by omega)
       have s := Lib.bitLen_shift8 x.toNat (by omega) (by omega)
       rw [e] at l ⊢
       exact wrap_add 8 _ _ (by decide) l s)
    | (rw [len8_get x _, Lib.len8_of x (by omega) (by omega)]
       exact wrap_wrap _ (Lib.bitLen_le8' x (by omega) (by omega)))
    | (rw [len8_get x _, Lib.len8_of x (by omega) (by omega)]
       exact wrap_one _ (Lib.bitLen_le8' x (by omega) (by omega)))
theorem bitLen_le64 (x : Nat) (h : x < 18446744073709551616) : Lib.bitLen x ≤ 64 := Lib.bitLen_le x 64 (by decide) h
theorem lead_any (x : Int) (w : World) (h0 : 0 ≤ x) (h1 : x ≤ 18446744073709551615) :
    Calls Tryd.prog 49 #[.int .u64 x] w fun e w' => e = .returned (.int .i64 ((64 - Lib.bitLen x.toNat : Nat) : Int)) ∧ w' = w := by
  have hb := bitLen_le64 x.toNat (by omega)
  have HC := hide (fun w => len64_any x w h0 h1)
  generalize Lib.bitLen x.toNat = b at HC hb ⊢
  go_enter Tryd.func49, Tryd.ntmps49
  go_wp2_with (go_at_call 53; refine (HC.out _).mono ?_; rintro e w' ⟨rfl, rfl⟩)
  go_ret
  exact ⟨ret_int (by omega), rfl⟩
/-- The lowest bit, as the code takes it. -/
theorem low_one (n : Nat) (h0 : n ≠ 0) (h1 : n < 18446744073709551616) : bits BinOp.and IntKind.u64 (n : Int) (IntKind.u64.wrap (-(n : Int))) = ((2 ^ Lib.ctz 64 n : Nat) : Int) := by
  have h := (Lib.lowest_bit 64 n h0 (by simpa using h1)).1
  have e : IntKind.u64.wrap (-(n : Int)) = ((2 ^ 64 - n : Nat) : Int) := by rw [IntKind.wrap_u64]; omega
  rw [e, ← h]
  have h2 : (2 : Nat) ^ 64 - n < 18446744073709551616 := by omega
  generalize 2 ^ 64 - n = m at h2
  exact u64_and_nat n m h1 h2
theorem trail_zero (w : World) : Calls Tryd.prog 50 #[.int .u64 0] w fun e w' => e = .returned (.int .i64 64) ∧ w' = w := by
  go_enter Tryd.func50, Tryd.ntmps50
  go_wp2
  go_ret
  exact ⟨rfl, rfl⟩
theorem ctz_lt (n : Nat) (h0 : n ≠ 0) (h1 : n < 18446744073709551616) : Lib.ctz 64 n < 64 := (Lib.lowest_bit 64 n h0 (by simpa using h1)).2
theorem trail_num (n : Nat) (h0 : n ≠ 0) (h1 : n < 18446744073709551616) : ∃ p ix : Nat, bits BinOp.and IntKind.u64 (n : Int) (IntKind.u64.wrap (-(n : Int))) = (p : Int) ∧
    IntKind.u64.wrap ((p : Int) * 285870213051353865) / 288230376151711744 = (ix : Int) ∧ ix < 64 ∧ Lib.deBruijn64tab.getD ix 0 = Lib.ctz 64 n := by
  have hlow := low_one n h0 h1
  have hk := ctz_lt n h0 h1
  generalize Lib.ctz 64 n = k at hlow hk ⊢
  have hat := Lib.deBruijn64_at k hk
  generalize 2 ^ k = p at hlow hat
  refine ⟨p, p * 285870213051353865 % 18446744073709551616 / 288230376151711744, hlow, ?_, hat.1, hat.2⟩
  rw [IntKind.wrap_u64, Int.natCast_ediv, Int.natCast_emod, Int.natCast_mul]
  simp
theorem trail_pos (n : Nat) (w : World) (h0 : n ≠ 0) (h1 : n < 18446744073709551616) (ht : Tab w) :
    Calls Tryd.prog 50 #[.int .u64 n] w fun e w' => e = .returned (.int .i64 (Lib.ctz 64 n : Nat)) ∧ w' = w := by
  obtain ⟨p, ix, hlow, hx, hi, ha⟩ := trail_num n h0 h1
  have hk := ctz_lt n h0 h1
  have hz : ((n : Int) == 0) = false := by simp; exact h0
  have hc := ht.2 _ hi
  rw [ha] at hc
  generalize Lib.ctz 64 n = k at hc hk ⊢
  clear ha ht h0
  go_enter Tryd.func50, Tryd.ntmps50
  go_wp2
  go_ret
  exact ⟨ret_int (by omega), rfl⟩
/-- Noughts ahead, noughts behind. -/
def P.lz (t : Nat) : Nat := 64 - Lib.bitLen t
def P.tz (t : Nat) : Nat := Lib.ctz 64 t
/-- A window as a value. -/
abbrev winV (a b : Int) : Value := .agg #[.int .i64 a, .int .i64 b]
theorem trail_any (n : Nat) (w : World) (h1 : n < 18446744073709551616) (ht : Tab w) :
    Calls Tryd.prog 50 #[.int .u64 n] w fun e w' => e = .returned (.int .i64 (P.tz n : Nat)) ∧ w' = w := by
  by_cases h0 : n = 0
  · subst h0; exact trail_zero w
  · exact trail_pos n w h0 h1 ht
theorem lead_nat (n : Nat) (w : World) (h1 : n < 18446744073709551616) :
    Calls Tryd.prog 49 #[.int .u64 n] w fun e w' => e = .returned (.int .i64 (P.lz n : Nat)) ∧ w' = w :=
  lead_any n w (by omega) (by omega)
theorem windowOf_any (n : Nat) (w : World) (h1 : n < 18446744073709551616) (ht : Tab w) :
    Calls Tryd.prog 40 #[.int .u64 n] w fun e w' => e = .returned (winV (P.lz n : Nat) (P.tz n : Nat)) ∧ Below w.heap.size w w' := by
  have HL := hide (fun w => lead_nat n w h1)
  have HT := hide (fun w ht => trail_any n w h1 ht)
  generalize P.lz n = a at HL ⊢
  generalize P.tz n = b at HT ⊢
  go_enter Tryd.func40, Tryd.ntmps40
  go_wp2_with (first
    | (go_at_call 49; refine (HL.out _).mono ?_; rintro e w' ⟨rfl, rfl⟩)
    | (go_at_call 50; refine (HT.out _ (ht.next ((Below.refl _ _).alloc (Nat.le_refl _) _))).mono ?_; rintro e w' ⟨rfl, rfl⟩))
  exact bodyPost_ret (v := winV a b) (by simp [results, Tryd.results40, go_sem]) rfl ⟨rfl, (Below.refl _ _).alloc (Nat.le_refl _) _⟩
theorem width_any (a b : Int) (w : World) (h0 : 0 ≤ a) (h1 : a ≤ 64) (h2 : -64 ≤ b) (h3 : b ≤ 64) :
    Calls Tryd.prog 42 #[winV a b] w fun e w' => e = .returned (.int .i64 (64 - a - b)) ∧ Below w.heap.size w w' := by
  go_enter Tryd.func42, Tryd.ntmps42
  go_wp2
  go_ret
  exact ⟨rfl, (Below.refl _ _).alloc (Nat.le_refl _) _⟩
theorem noWindow_any (w : World) :
    Calls Tryd.prog 25 #[] w fun e w' => e = .returned (winV 64 64) ∧ Below w.heap.size w w' := by
  go_enter Tryd.func25, Tryd.ntmps25
  go_wp2
  exact bodyPost_ret (v := winV 64 64) (by simp [results, Tryd.results25, go_sem]) rfl ⟨rfl, (Below.refl _ _).alloc (Nat.le_refl _) _⟩
theorem holds_yes (a b c d : Int) (w : World) (h1 : a ≤ c) (h2 : b ≤ d) :
    Calls Tryd.prog 41 #[winV a b, winV c d] w fun e w' => e = .returned (.bool true) ∧ Below w.heap.size w w' := by
  have d1 : decide (a ≤ c) = true := by simp; exact h1
  have d2 : decide (b ≤ d) = true := by simp; exact h2
  clear h1 h2
  go_enter Tryd.func41, Tryd.ntmps41
  go_wp2
  go_ret
  exact ⟨rfl, ((Below.refl _ _).alloc (Nat.le_refl _) _).alloc (by simp) _⟩
theorem holds_no (a b c d : Int) (w : World) (h : ¬ (a ≤ c ∧ b ≤ d)) :
    Calls Tryd.prog 41 #[winV a b, winV c d] w fun e w' => e = .returned (.bool false) ∧ Below w.heap.size w w' := by
  by_cases h1 : a ≤ c
  · have d1 : decide (a ≤ c) = true := by simp; exact h1
    have d2 : decide (b ≤ d) = false := by simp; omega
    clear h h1
    go_enter Tryd.func41, Tryd.ntmps41
    go_wp2
    go_ret
    exact ⟨rfl, ((Below.refl _ _).alloc (Nat.le_refl _) _).alloc (by simp) _⟩
  · have d1 : decide (a ≤ c) = false := by simp; omega
    clear h h1
    go_enter Tryd.func41, Tryd.ntmps41
    go_wp2
    go_ret
    exact ⟨rfl, ((Below.refl _ _).alloc (Nat.le_refl _) _).alloc (by simp) _⟩
end Go.Proofs.YteohlkpejdjenaaDoor
