/- Several texts in one. -/
import Derived.Test.YtfjbdgkdkbcnhaaDoorPlainAll
import Derived.Test.YtfjbdgkdkbcnhaaDoorCards
import Derived.Test.YtfjbdgkdkbcnhaaDoorTie
import Derived.Deep.DeepHandedRow
import Derived.Lib.LaidTab
import Derived.Lib.TrailingZeros
import Derived.Lib.BitFns
import Derived.Deep.Light
import Derived.Laws.BitsAllLaws
import Derived.Deep.QuietTactic
import Derived.BigQuiet
/- The listed table math/bits.deBruijn64tab; what math/bits.Len64, LeadingZeros64 and TrailingZeros64 answer; windows. -/
namespace Go.Proofs.YtfjbdgkdkbcnhaaDoor
open P
namespace X
open Go.ChangeShapes Go.WideShapes Go.ChangeAt Go.RowKit Go.Joins
set_option linter.unusedVariables false

theorem gTab : Tryd.prog.globalNamed "math/bits.deBruijn64tab" = some 1 := by kernel_rfl
theorem gTabType : (Tryd.prog.globals[1]?).map (·.type) = some 119 := by kernel_rfl
theorem cells119 : Tryd.prog.cellsOf 119 = 64 := by kernel_rfl
def tabZs : List Int := Lib.deBruijn64tab.map fun (n : Nat) => (n : Int)
def Tab (w : World) : Prop := 1 < w.heap.size ∧ ∀ i : Nat, i < 64 → w.cell? ⟨1, i, none⟩ = some (.int .u8 (Lib.deBruijn64tab.getD i 0 : Nat))
theorem Tab.below {w w' : World} {B : Nat} (h : Tab w) (hb : Below B w w') (hB : 1 < B) : Tab w' :=
  ⟨Nat.lt_of_lt_of_le h.1 hb.size, fun i hi => (hb.cell (p := ⟨1, i, none⟩) hB).trans (h.2 i hi)⟩
theorem Tab.next {w w' : World} (h : Tab w) (hb : Below w.heap.size w w') : Tab w' := h.below hb h.1
theorem tab_at (i : Nat) (hi : i < 64) : tabZs.getD i 0 = (Lib.deBruijn64tab.getD i 0 : Nat) := by
  have h : ∀ k : Fin 64, tabZs.getD k.val 0 = (Lib.deBruijn64tab.getD k.val 0 : Nat) := by decide +kernel
  exact h ⟨i, hi⟩
theorem tab_of_head {W : World} {rest : List (String × DataW Unit)} (h : laidMet Tryd.prog (("math/bits.deBruijn64tab", Rows.laid_math_bits_deBruijn64tab) :: rest) W) : Tab W := by
  have h2 : laidMet Tryd.prog (("math/bits.deBruijn64tab", Lib.tabData .u8 tabZs) :: rest) W := h
  have h3 := Lib.tabIs_of_head gTab gTabType Tryd.underlying119 Tryd.underlying5 cells5 cells119 h2
  have h4 : ∀ i : Nat, i < 64 → W.cell? ⟨1, i, none⟩ = some (.int .u8 (Lib.deBruijn64tab.getD i 0 : Nat)) := by
    intro i hi
    rw [← tab_at i hi]
    exact h3.cell gTab i hi
  exact ⟨World.block_lt_of_cell? W _ (h4 0 (by decide)), h4⟩
theorem laid_of {W : World} (h : laidMetH Tryd.prog [("math/bits.deBruijn64tab", Rows.laid_math_bits_deBruijn64tab)] W) : Tab W := by
  rw [MakeChecks.laidMetH_plain _ _ _ (by kernel_rfl)] at h
  exact tab_of_head h
/-- A world for the witness: the settled one, the table holding what its initialiser lays. -/
noncomputable def laidWorld (os : Os) : World :=
  { World.holding Tryd.prog os ⟨#[], #[], []⟩ with heap := (World.holding Tryd.prog os ⟨#[], #[], []⟩).heap.modify 1 fun
      | .cells _ t frozen => .cells (tabZs.map (Value.int .u8)).toArray t frozen
      | o => o }

theorem wrap_add (k a b : Nat) (hk : k ≤ 56) (ha : a ≤ 8) (hb : b = k + a) : wrap64 ((k : Int) + wrap64 (a : Int)) = (b : Int) := by
  unfold wrap64
  omega
theorem wrap_wrap (a : Nat) (ha : a ≤ 8) : wrap64 (wrap64 (a : Int)) = (a : Int) := by
  unfold wrap64
  omega
theorem wrap_one (a : Nat) (ha : a ≤ 8) : wrap64 (a : Int) = (a : Int) := by
  unfold wrap64
  omega
theorem len8_get (y : Int) (h : y.toNat < Lib.len8tab.size) : ((Lib.len8tab[y.toNat]'h).toNat : Int) = Lib.len8 y := by
  unfold Lib.len8
  rw [getElem?_pos Lib.len8tab y.toNat h]
  rfl
set_option maxHeartbeats 32000000 in
set_option maxRecDepth 1000000 in
theorem len64_any (x : Int) (w : World) (h0 : 0 ≤ x) (h1 : x ≤ 18446744073709551615) :
    Calls Tryd.prog 75 #[.int .u64 x] w fun e w' => e = .returned (.int .i64 (Lib.bitLen x.toNat)) ∧ w' = w := by
  go_enter Tryd.func75, Tryd.ntmps75
  go_wp2
  all_goals first
    | (go_ret; refine ⟨congrArg Ending.returned (congrArg (Value.int IntKind.i64) ?_), rfl⟩; go_light)
    | (exfalso
       go_light
       have hs := Lib.len8tab_size
       omega)
  all_goals first
    | (rw [len8_get (x / 4294967296 / 65536 / 256) _, Lib.len8_of (x / 4294967296 / 65536 / 256) (by omega) (by omega)]
       have e : (x / 4294967296 / 65536 / 256).toNat = x.toNat / 72057594037927936 := by omega
       have l := Lib.bitLen_le8' (x / 4294967296 / 65536 / 256) (by omega) (by omega)
       have s := Lib.bitLen_shift56 x.toNat (by omega) (by omega)
       rw [e] at l ⊢
       exact wrap_add 56 _ _ (by decide) l s)
    | (rw [len8_get (x / 4294967296 / 65536) _, Lib.len8_of (x / 4294967296 / 65536) (by omega) (by omega)]
       have e : (x / 4294967296 / 65536).toNat = x.toNat / 281474976710656 := by omega
       have l := Lib.bitLen_le8' (x / 4294967296 / 65536) (by omega) (by omega)
       have s := Lib.bitLen_shift48 x.toNat (by omega) (by omega)
       rw [e] at l ⊢
       exact wrap_add 48 _ _ (by decide) l s)
    | (rw [len8_get (x / 4294967296 / 256) _, Lib.len8_of (x / 4294967296 / 256) (by omega) (by omega)]
       have e : (x / 4294967296 / 256).toNat = x.toNat / 1099511627776 := by omega
       have l := Lib.bitLen_le8' (x / 4294967296 / 256) (by omega) (by omega)
       have s := Lib.bitLen_shift40 x.toNat (by omega) (by omega)
       rw [e] at l ⊢
       exact wrap_add 40 _ _ (by decide) l s)
    | (rw [len8_get (x / 4294967296) _, Lib.len8_of (x / 4294967296) (by omega) (by omega)]
       have e : (x / 4294967296).toNat = x.toNat / 4294967296 := by omega
       have l := Lib.bitLen_le8' (x / 4294967296) (by omega) (by omega)
       have s := Lib.bitLen_shift32 x.toNat (by omega) (by omega)
       rw [e] at l ⊢
       exact wrap_add 32 _ _ (by decide) l s)
    | (rw [len8_get (x / 65536 / 256) _, Lib.len8_of (x / 65536 / 256) (by omega) (by omega)]
       have e : (x / 65536 / 256).toNat = x.toNat / 16777216 := by omega
       have l := Lib.bitLen_le8' (x / 65536 / 256) (by omega) (by omega)
       have s := Lib.bitLen_shift24 x.toNat (by omega) (by omega)
       rw [e] at l ⊢
       exact wrap_add 24 _ _ (by decide) l s)
    | (rw [len8_get (x / 65536) _, Lib.len8_of (x / 65536) (by omega) (by omega)]
       have e : (x / 65536).toNat = x.toNat / 65536 := by omega
       have l := Lib.bitLen_le8' (x / 65536) (by omega) (by omega)
       have s := Lib.bitLen_shift16 x.toNat (by omega) (by omega)
       rw [e] at l ⊢
       exact wrap_add 16 _ _ (by decide) l s)
    | (rw [len8_get (x / 256) _, Lib.len8_of (x / 256) (by omega) (by omega)]
       have e : (x / 256).toNat = x.toNat / 256 := by omega
       have l := Lib.bitLen_le8' (x / 256) (by omega) (by omega)
       have s := Lib.bitLen_shift8 x.toNat (by omega) (by omega)
       rw [e] at l ⊢
       exact wrap_add 8 _ _ (by decide) l s)
    | (rw [len8_get x _, Lib.len8_of x (by omega) (by omega)]
       exact wrap_wrap _ (Lib.bitLen_le8' x (by omega) (by omega)))
    | (rw [len8_get x _, Lib.len8_of x (by omega) (by omega)]
       exact wrap_one _ (Lib.bitLen_le8' x (by omega) (by omega)))
theorem bitLen_le64 (x : Nat) (h : x < 18446744073709551616) : Lib.bitLen x ≤ 64 := Lib.bitLen_le x 64 (by decide) h
theorem lead_any (x : Int) (w : World) (h0 : 0 ≤ x) (h1 : x ≤ 18446744073709551615) :
    Calls Tryd.prog 70 #[.int .u64 x] w fun e w' => e = .returned (.int .i64 ((64 - Lib.bitLen x.toNat : Nat) : Int)) ∧ w' = w := by
  have hb := bitLen_le64 x.toNat (by omega)
  have HC := hide (fun w => len64_any x w h0 h1)
  generalize Lib.bitLen x.toNat = b at HC hb ⊢
  go_enter Tryd.func70, Tryd.ntmps70
  go_wp2_with (go_at_call 75; refine (HC.out _).mono ?_; rintro e w' ⟨rfl, rfl⟩)
  go_ret
  exact ⟨ret_int (by omega), rfl⟩
/-- The lowest bit, as the code takes it. -/
theorem low_one (n : Nat) (h0 : n ≠ 0) (h1 : n < 18446744073709551616) : bits BinOp.and IntKind.u64 (n : Int) (IntKind.u64.wrap (-(n : Int))) = ((2 ^ Lib.ctz 64 n : Nat) : Int) := by
  have h := (Lib.lowest_bit 64 n h0 (by simpa using h1)).1
  have e : IntKind.u64.wrap (-(n : Int)) = ((2 ^ 64 - n : Nat) : Int) := by rw [IntKind.wrap_u64]; omega
  rw [e, ← h]
  have h2 : (2 : Nat) ^ 64 - n < 18446744073709551616 := by omega
  generalize 2 ^ 64 - n = m at h2
  exact u64_and_nat n m h1 h2
theorem trail_zero (w : World) : Calls Tryd.prog 71 #[.int .u64 0] w fun e w' => e = .returned (.int .i64 64) ∧ w' = w := by
  go_enter Tryd.func71, Tryd.ntmps71
  go_wp2
  go_ret
  exact ⟨rfl, rfl⟩
theorem ctz_lt (n : Nat) (h0 : n ≠ 0) (h1 : n < 18446744073709551616) : Lib.ctz 64 n < 64 := (Lib.lowest_bit 64 n h0 (by simpa using h1)).2
theorem trail_num (n : Nat) (h0 : n ≠ 0) (h1 : n < 18446744073709551616) : ∃ p ix : Nat, bits BinOp.and IntKind.u64 (n : Int) (IntKind.u64.wrap (-(n : Int))) = (p : Int) ∧
    IntKind.u64.wrap ((p : Int) * 285870213051353865) / 288230376151711744 = (ix : Int) ∧ ix < 64 ∧ Lib.deBruijn64tab.getD ix 0 = Lib.ctz 64 n := by
  have hlow := low_one n h0 h1
  have hk := ctz_lt n h0 h1
  generalize Lib.ctz 64 n = k at hlow hk ⊢
  have hat := Lib.deBruijn64_at k hk
  generalize 2 ^ k = p at hlow hat
  refine ⟨p, p * 285870213051353865 % 18446744073709551616 / 288230376151711744, hlow, ?_, hat.1, hat.2⟩
  rw [IntKind.wrap_u64, Int.natCast_ediv, Int.natCast_emod, Int.natCast_mul]
  simp
theorem trail_pos (n : Nat) (w : World) (h0 : n ≠ 0) (h1 : n < 18446744073709551616) (ht : Tab w) :
    Calls Tryd.prog 71 #[.int .u64 n] w fun e w' => e = .returned (.int .i64 (Lib.ctz 64 n : Nat)) ∧ w' = w := by
  obtain ⟨p, ix, hlow, hx, hi, ha⟩ := trail_num n h0 h1
  have hk := ctz_lt n h0 h1
  have hz : ((n : Int) == 0) = false := by simp; exact h0
  have hc := ht.2 _ hi
  rw [ha] at hc
  generalize Lib.ctz 64 n = k at hc hk ⊢
  clear ha ht h0
  go_enter Tryd.func71, Tryd.ntmps71
  go_wp2
  go_ret
  exact ⟨ret_int (by omega), rfl⟩
/-- Noughts ahead, noughts behind. -/
def P.lz (t : Nat) : Nat := 64 - Lib.bitLen t
def P.tz (t : Nat) : Nat := Lib.ctz 64 t
/-- A window as a value. -/
abbrev winV (a b : Int) : Value := .agg #[.int .i64 a, .int .i64 b]
theorem trail_any (n : Nat) (w : World) (h1 : n < 18446744073709551616) (ht : Tab w) :
    Calls Tryd.prog 71 #[.int .u64 n] w fun e w' => e = .returned (.int .i64 (P.tz n : Nat)) ∧ w' = w := by
  by_cases h0 : n = 0
  · subst h0; exact trail_zero w
  · exact trail_pos n w h0 h1 ht
theorem lead_nat (n : Nat) (w : World) (h1 : n < 18446744073709551616) :
    Calls Tryd.prog 70 #[.int .u64 n] w fun e w' => e = .returned (.int .i64 (P.lz n : Nat)) ∧ w' = w :=
  lead_any n w (by omega) (by omega)
theorem windowOf_any (n : Nat) (w : World) (h1 : n < 18446744073709551616) (ht : Tab w) :
    Calls Tryd.prog 57 #[.int .u64 n] w fun e w' => e = .returned (winV (P.lz n : Nat) (P.tz n : Nat)) ∧ Below w.heap.size w w' := by
  have HL := hide (fun w => lead_nat n w h1)
  have HT := hide (fun w ht => trail_any n w h1 ht)
  generalize P.lz n = a at HL ⊢
  generalize P.tz n = b at HT ⊢
  go_enter Tryd.func57, Tryd.ntmps57
  go_wp2_with (first
    | (go_at_call 70; refine (HL.out _).mono ?_; rintro e w' ⟨rfl, rfl⟩)
    | (go_at_call 71; refine (HT.out _ (ht.next ((Below.refl _ _).alloc (Nat.le_refl _) _))).mono ?_; rintro e w' ⟨rfl, rfl⟩))
  exact bodyPost_ret (v := winV a b) (by simp [results, Tryd.results57, go_sem]) rfl ⟨rfl, (Below.refl _ _).alloc (Nat.le_refl _) _⟩
theorem width_any (a b : Int) (w : World) (h0 : 0 ≤ a) (h1 : a ≤ 64) (h2 : -64 ≤ b) (h3 : b ≤ 64) :
    Calls Tryd.prog 59 #[winV a b] w fun e w' => e = .returned (.int .i64 (64 - a - b)) ∧ Below w.heap.size w w' := by
  go_enter Tryd.func59, Tryd.ntmps59
  go_wp2
  go_ret
  exact ⟨rfl, (Below.refl _ _).alloc (Nat.le_refl _) _⟩
theorem noWindow_any (w : World) :
    Calls Tryd.prog 40 #[] w fun e w' => e = .returned (winV 64 64) ∧ Below w.heap.size w w' := by
  go_enter Tryd.func40, Tryd.ntmps40
  go_wp2
  exact bodyPost_ret (v := winV 64 64) (by simp [results, Tryd.results40, go_sem]) rfl ⟨rfl, (Below.refl _ _).alloc (Nat.le_refl _) _⟩
theorem holds_yes (a b c d : Int) (w : World) (h1 : a ≤ c) (h2 : b ≤ d) :
    Calls Tryd.prog 58 #[winV a b, winV c d] w fun e w' => e = .returned (.bool true) ∧ Below w.heap.size w w' := by
  have d1 : decide (a ≤ c) = true := by simp; exact h1
  have d2 : decide (b ≤ d) = true := by simp; exact h2
  clear h1 h2
  go_enter Tryd.func58, Tryd.ntmps58
  go_wp2
  go_ret
  exact ⟨rfl, ((Below.refl _ _).alloc (Nat.le_refl _) _).alloc (by simp) _⟩
theorem holds_no (a b c d : Int) (w : World) (h : ¬ (a ≤ c ∧ b ≤ d)) :
    Calls Tryd.prog 58 #[winV a b, winV c d] w fun e w' => e = .returned (.bool false) ∧ Below w.heap.size w w' := by
  by_cases h1 : a ≤ c
  · have d1 : decide (a ≤ c) = true := by simp; exact h1
    have d2 : decide (b ≤ d) = false := by simp; omega
    clear h h1
    go_enter Tryd.func58, Tryd.ntmps58
    go_wp2
    go_ret
    exact ⟨rfl, ((Below.refl _ _).alloc (Nat.le_refl _) _).alloc (by simp) _⟩
  · have d1 : decide (a ≤ c) = false := by simp; omega
    clear h h1
    go_enter Tryd.func58, Tryd.ntmps58
    go_wp2
    go_ret
    exact ⟨rfl, ((Below.refl _ _).alloc (Nat.le_refl _) _).alloc (by simp) _⟩
end X
end Go.Proofs.YtfjbdgkdkbcnhaaDoor
/- Plain: measures as bits: turns, windows, and what Pack makes of a list. -/
namespace Go.Proofs.YtfjbdgkdkbcnhaaDoor
open P
namespace X
namespace P
theorem lt_bitLenAux : ∀ (f x : Nat), x < 2 ^ f → x < 2 ^ Lib.bitLenAux f x
  | 0, x, h => by simpa [Lib.bitLenAux] using h
  | f + 1, x, h => by
    unfold Lib.bitLenAux
    split
    · omega
    · have h2 : x / 2 < 2 ^ f := by rw [Nat.pow_succ] at h; omega
      have := lt_bitLenAux f (x / 2) h2
      rw [Nat.add_comm, Nat.pow_succ]; omega
theorem lz_ge (t a : Nat) (ht : t < 18446744073709551616) (ha : a ≤ 64) : a ≤ lz t ↔ t < 2 ^ (64 - a) := by
  have hb : Lib.bitLen t ≤ 64 := bitLen_le64 t ht
  unfold lz
  constructor
  · intro h
    have h1 : t < 2 ^ Lib.bitLen t := lt_bitLenAux 64 t (by simpa using ht)
    exact Nat.lt_of_lt_of_le h1 (Nat.pow_le_pow_right (by decide) (by omega))
  · intro h
    have := Lib.bitLen_le t (64 - a) (by omega) h
    omega
theorem lz_le (t : Nat) (ht : t < 18446744073709551616) (h0 : t ≠ 0) : lz t ≤ 63 := by
  have h := lz_ge t 64 ht (by decide)
  simp at h
  omega
theorem tz_spec (t : Nat) (h0 : t ≠ 0) (ht : t < 18446744073709551616) : ∃ m, t = 2 ^ tz t * (2 * m + 1) ∧ tz t < 64 := by
  have h := Lib.ctzFrom_spec 64 t (by omega) (by simpa using ht)
  have e : tz t = Lib.ctzFrom 64 t := by simp [tz, Lib.ctz, h0]
  rw [e]; exact h
theorem tz_ge (t b : Nat) (h0 : t ≠ 0) (ht : t < 18446744073709551616) : b ≤ tz t ↔ t % 2 ^ b = 0 := by
  obtain ⟨m, hm, hk⟩ := tz_spec t h0 ht
  generalize tz t = k at hm hk ⊢
  constructor
  · intro h
    have : 2 ^ b ∣ 2 ^ k := Nat.pow_dvd_pow 2 h
    rw [hm]
    exact Nat.mod_eq_zero_of_dvd (Nat.dvd_mul_right_of_dvd this _)
  · intro h
    refine Nat.le_of_not_lt fun hlt => ?_
    have h1 : 2 ^ (k + 1) ∣ t := Nat.dvd_trans (Nat.pow_dvd_pow 2 hlt) (Nat.dvd_of_mod_eq_zero h)
    rw [hm, Nat.pow_succ] at h1
    have h2 := Nat.dvd_of_mul_dvd_mul_left (Nat.pow_pos (by decide)) h1
    omega
theorem lz_tz (t : Nat) (h0 : t ≠ 0) (ht : t < 18446744073709551616) : lz t + tz t ≤ 63 := by
  have h1 := lz_le t ht h0
  have h2 := (lz_ge t (lz t) ht (by omega)).1 (Nat.le_refl _)
  obtain ⟨m, hm, hk⟩ := tz_spec t h0 ht
  have h3 : 2 ^ tz t ≤ t := by
    have h4 : 2 ^ tz t ≤ 2 ^ tz t * (2 * m + 1) := Nat.le_mul_of_pos_right _ (by omega)
    omega
  have h5 : 2 ^ tz t < 2 ^ (64 - lz t) := Nat.lt_of_le_of_lt h3 h2
  have := (Nat.pow_lt_pow_iff_right (by decide)).1 h5
  omega
def nw (w : Nat × Nat) (t : Nat) : Nat × Nat := if t = 0 then w else if w.1 ≤ lz t ∧ w.2 ≤ tz t then w else (lz t, tz t)
def body (a b t : Nat) : List Bool := ofVal (t / 2 ^ b) (64 - a - b)
/-- The bits of a turn where there is this window. -/
def tbits (w : Nat × Nat) (t : Nat) : List Bool :=
  if t = 0 then ofVal 0 1 else if w.1 ≤ lz t ∧ w.2 ≤ tz t then ofVal 2 2 ++ body w.1 w.2 t
  else ofVal 3 2 ++ (ofVal (lz t) 6 ++ (ofVal (63 - lz t - tz t) 6 ++ body (lz t) (tz t) t))
/-- A window that is none, or one. -/
def Win (w : Nat × Nat) : Prop := w.1 = 64 ∧ w.2 = 64 ∨ w.1 + w.2 ≤ 63
theorem win_nw {w : Nat × Nat} (h : Win w) (t : Nat) (ht : t < 18446744073709551616) : Win (nw w t) := by
  unfold nw
  split
  · exact h
  · rename_i h0
    split
    · exact h
    · exact .inr (lz_tz t h0 ht)
/-- A window that holds a turn is one. -/
theorem win_holds {w : Nat × Nat} (h : Win w) (t : Nat) (h0 : t ≠ 0) (ht : t < 18446744073709551616) (h1 : w.1 ≤ lz t) : w.1 + w.2 ≤ 63 := by
  have := lz_le t ht h0
  rcases h with h | h <;> omega
theorem body_lt (a b t : Nat) (h0 : t ≠ 0) (ht : t < 18446744073709551616) (ha : a ≤ lz t) (hb : b ≤ tz t) : t / 2 ^ b < 2 ^ (64 - a - b) := by
  have h := lz_tz t h0 ht
  have h1 := (lz_ge t a ht (by omega)).1 ha
  apply Nat.div_lt_of_lt_mul
  rw [← Nat.pow_add]
  have e : b + (64 - a - b) = 64 - a := by omega
  rw [e]; exact h1
theorem body_back (b t : Nat) (h0 : t ≠ 0) (ht : t < 18446744073709551616) (hb : b ≤ tz t) : t / 2 ^ b * 2 ^ b = t := Nat.div_mul_cancel (Nat.dvd_of_mod_eq_zero ((tz_ge t b h0 ht).1 hb))
theorem body_len (a b t : Nat) : (body a b t).length = 64 - a - b := ofVal_len _ _
theorem tbits_le (w : Nat × Nat) (t : Nat) : (tbits w t).length ≤ 78 := by
  unfold tbits
  split
  · simp [ofVal_len]
  · split <;> simp [ofVal_len, body_len] <;> omega
theorem tbits_pos (w : Nat × Nat) (t : Nat) : 1 ≤ (tbits w t).length := by
  unfold tbits
  split
  · simp [ofVal_len]
  · split <;> simp [ofVal_len, body_len] <;> omega
/-- What a value in a window's bits is as a turn. -/
theorem turn_of (a b x : Nat) (hab : a + b ≤ 63) (hx : x < 2 ^ (64 - a - b)) (h0 : x ≠ 0) : x * 2 ^ b ≠ 0 ∧ x * 2 ^ b < 18446744073709551616 ∧ a ≤ lz (x * 2 ^ b) ∧ b ≤ tz (x * 2 ^ b) ∧ x * 2 ^ b / 2 ^ b = x := by
  have hp : 0 < 2 ^ b := Nat.pow_pos (by decide)
  have h1 : x * 2 ^ b < 2 ^ (64 - a) := by
    have e : 64 - a = (64 - a - b) + b := by omega
    rw [e, Nat.pow_add]
    exact Nat.mul_lt_mul_of_pos_right hx hp
  have h2 : x * 2 ^ b < 18446744073709551616 := Nat.lt_of_lt_of_le h1 (by
    have : (2 : Nat) ^ (64 - a) ≤ 2 ^ 64 := Nat.pow_le_pow_right (by decide) (by omega)
    simpa using this)
  have h3 : x * 2 ^ b ≠ 0 := Nat.mul_ne_zero h0 (by omega)
  exact ⟨h3, h2, (lz_ge _ a h2 (by omega)).2 h1, (tz_ge _ b h3 h2).2 (Nat.mul_mod_left _ _), Nat.mul_div_cancel _ hp⟩

def tn (l : List Int) (j : Nat) : Nat := (l.getD j 0).toNat ^^^ (l.getD (j - 1) 0).toNat
def win (l : List Int) : Nat → Nat × Nat
  | 0 => (64, 64)
  | j + 1 => if j = 0 then (64, 64) else nw (win l j) (tn l j)
def lst (l : List Int) (j : Nat) : Int := if j = 0 then 0 else l.getD (j - 1) 0
/-- The bits of the number at j. -/
def tb (l : List Int) (j : Nat) : List Bool := if j = 0 then ofVal (l.getD 0 0).toNat 64 else tbits (win l j) (tn l j)
def front (l : List Int) (n j : Nat) : List Bool := ofVal n 16 ++ (List.range j).flatMap (tb l)
def packT (l : List Int) : List Bool := front l l.length l.length
def U64 (l : List Int) : Prop := ∀ x ∈ l, 0 ≤ x ∧ x ≤ 18446744073709551615
theorem U64.at {l : List Int} (h : U64 l) (j : Nat) : 0 ≤ l.getD j 0 ∧ l.getD j 0 ≤ 18446744073709551615 := by
  by_cases hj : j < l.length
  · have := h l[j] (List.getElem_mem hj)
    simpa [List.getD_eq_getElem?_getD, List.getElem?_eq_getElem hj] using this
  · simp [List.getD_eq_getElem?_getD, List.getElem?_eq_none (Nat.le_of_not_lt hj)]
theorem xor_lt (a b : Nat) (ha : a < 18446744073709551616) (hb : b < 18446744073709551616) : a ^^^ b < 18446744073709551616 := by
  have h := Nat.xor_lt_two_pow (x := a) (y := b) (n := 64) (by simpa using ha) (by simpa using hb)
  simpa using h
theorem tn_lt {l : List Int} (h : U64 l) (j : Nat) : tn l j < 18446744073709551616 := by
  have h1 := h.at j
  have h2 := h.at (j - 1)
  exact xor_lt _ _ (by omega) (by omega)
theorem win_ok {l : List Int} (h : U64 l) : ∀ j, Win (win l j)
  | 0 => .inl ⟨rfl, rfl⟩
  | j + 1 => by
    unfold win
    split
    · exact .inl ⟨rfl, rfl⟩
    · exact win_nw (win_ok h j) _ (tn_lt h j)
theorem front_zero (l : List Int) (n : Nat) : front l n 0 = ofVal n 16 := by simp [front]
theorem front_succ (l : List Int) (n j : Nat) : front l n (j + 1) = front l n j ++ tb l j := by
  unfold front; rw [List.range_succ, List.flatMap_append]; simp
theorem tb_le (l : List Int) (j : Nat) : (tb l j).length ≤ 78 := by
  unfold tb; split
  · rw [ofVal_len]; omega
  · exact tbits_le _ _
theorem front_le (l : List Int) (n j : Nat) : (front l n j).length ≤ 16 + 78 * j := by
  induction j with
  | zero => rw [front_zero, ofVal_len]; omega
  | succ j ih => rw [front_succ, List.length_append]; have := tb_le l j; omega
theorem front_ge (l : List Int) (n j : Nat) : 16 ≤ (front l n j).length := by
  unfold front; rw [List.length_append, ofVal_len]; omega
theorem getD_app (acc r : List Int) (i : Nat) (h : i < acc.length) : (acc ++ r).getD i 0 = acc.getD i 0 := by
  rw [List.getD_eq_getElem?_getD, List.getD_eq_getElem?_getD, List.getElem?_append_left h]
/-- What stands further behind is no matter. -/
theorem tn_app (l m : List Int) (j : Nat) (h : j < l.length) : tn (l ++ m) j = tn l j := by
  unfold tn; rw [getD_app l m j h, getD_app l m (j - 1) (by omega)]
theorem win_app (l m : List Int) : ∀ (j : Nat), j ≤ l.length → win (l ++ m) j = win l j
  | 0, _ => rfl
  | j + 1, h => by
    unfold win
    rw [win_app l m j (by omega), tn_app l m j (by omega)]
theorem tb_app (l m : List Int) (j : Nat) (h : j < l.length) : tb (l ++ m) j = tb l j := by
  unfold tb
  rw [win_app l m j (by omega), tn_app l m j h, getD_app l m 0 (by omega)]
theorem front_app (l m : List Int) (n j : Nat) (h : j ≤ l.length) : front (l ++ m) n j = front l n j := by
  induction j with
  | zero => rw [front_zero, front_zero]
  | succ j ih => rw [front_succ, front_succ, ih (by omega), tb_app l m j (by omega)]
end P
end X
end Go.Proofs.YtfjbdgkdkbcnhaaDoor
/- What xor.push and xor.pushTurn answer. -/
namespace Go.Proofs.YtfjbdgkdkbcnhaaDoor
open P
namespace X
open Go.RowKit
set_option linter.unusedVariables false
set_option linter.unusedSimpArgs false

theorem box_ret {w3 : World} {b : Nat} {x y d0 d1 : Value} (o : Obj) (hd0 : w3.cell? ⟨b, 0, none⟩ = some d0) (hd1 : w3.cell? ⟨b, 1, none⟩ = some d1) :
    (((w3.setCell ⟨b, 0, none⟩ x).setCell ⟨b, 1, none⟩ y).alloc o).cell? ⟨b, 0, none⟩ = some x ∧ (((w3.setCell ⟨b, 0, none⟩ x).setCell ⟨b, 1, none⟩ y).alloc o).cell? ⟨b, 1, none⟩ = some y :=
  ⟨keep_alloc ((World.cell?_setCell_other _ _ _ _ (by simp)).trans (World.cell?_setCell_same _ _ _ hd0)) o, keep_alloc (World.cell?_setCell_same _ _ _ ((World.cell?_setCell_other _ _ _ _ (by simp)).trans hd1)) o⟩
theorem xpush_ok (v : Value) (bs : List Bool) (u m : Nat) (w : World) (hr : RowB w v (P.pack bs)) (h1 : m ≤ 64) (u1 : (u : Int) ≤ 18446744073709551615) (hf : u < 2 ^ m) (hl : bs.length + m ≤ 80000) :
    Calls Tryd.prog 39 #[.agg #[v, .int .i64 bs.length], .int .u64 u, .int .i64 m] w fun e w' =>
      ∃ vy, e = .returned (.agg #[vy, .int .i64 ((bs.length + m : Nat) : Int)]) ∧ OwnB w' w.heap.size vy (P.pack (bs ++ P.ofVal u m)) ∧ Below w.heap.size w w' := by
  have HP := hide (fun (w : World) (hr : RowB w v (P.pack bs)) => push_ok v bs u m w hr h1 u1 hf hl)
  go_enter Tryd.func39, Tryd.ntmps39
  go_wp2_with (go_at_call 55; go_must (refine (HP.out _ (row_two hr _ _)).mono ?_); rintro e w3 ⟨vy, rfl, hown, hb2⟩; have hs3 := hb2.size; obtain ⟨ay, capy, hvy⟩ := hown.shp; rw [hvy] at hown ⊢; clear hvy; obtain ⟨hc0, hc1, hd0, hd1, hf0, hf1, hb, hsz⟩ := box4 hb2; clear hb2)
  generalize P.pack (bs ++ P.ofVal u m) = L at hown ⊢
  have q := fun x y o => box_ret (x := x) (y := y) o hd0 hd1
  refine bodyPost_ret (v := .agg #[.slice ay L.length capy, .int .i64 ((bs.length + m : Nat) : Int)]) (by simp [results, Tryd.results39, go_sem, q]) rfl ⟨_, rfl, ?_, ?_⟩
  · exact World.ownsRow.alloc (OwnB.base (ownsRow_setCell_below (ownsRow_setCell_below hown (by simp) _) (by simp) _) (by simp; omega)) _
  · exact below_alloc ((hb.setCell (by simp) _).setCell (by simp) _) _
/-- The same, with the bits' own number. -/
theorem xpush_bits (v : Value) (bs : List Bool) (u m : Nat) (w : World) (hr : RowB w v (P.pack bs)) (h1 : m ≤ 64) (u1 : u < 18446744073709551616) (hf : u < 2 ^ m) (hl : bs.length + m ≤ 80000) :
    Calls Tryd.prog 39 #[.agg #[v, .int .i64 bs.length], .int .u64 u, .int .i64 m] w fun e w' =>
      ∃ vy, e = .returned (.agg #[vy, .int .i64 ((bs ++ P.ofVal u m).length : Nat)]) ∧ OwnB w' w.heap.size vy (P.pack (bs ++ P.ofVal u m)) ∧ Below w.heap.size w w' := by
  have h := xpush_ok v bs u m w hr h1 (by omega) hf hl
  rw [List.length_append, P.ofVal_len]
  exact h

/-- A box of two words that may be written. -/
structure B2 (w : World) (g : Nat) (c0 c1 : Value) : Prop where
  x0 : w.cell? ⟨g, 0, none⟩ = some c0
  x1 : w.cell? ⟨g, 1, none⟩ = some c1
  f0 : w.frozen? ⟨g, 0, none⟩ = false
  f1 : w.frozen? ⟨g, 1, none⟩ = false
theorem B2.lt {w : World} {g : Nat} {c0 c1 : Value} (h : B2 w g c0 c1) : g < w.heap.size := World.block_lt_of_cell? _ _ h.x0
theorem B2.next {w w' : World} {g : Nat} {c0 c1 : Value} (h : B2 w g c0 c1) (hb : Below w.heap.size w w') : B2 w' g c0 c1 :=
  ⟨keep_cell h.x0 hb, keep_cell h.x1 hb, (hb.frozen (p := ⟨g, 0, none⟩) h.lt).trans h.f0, (hb.frozen (p := ⟨g, 1, none⟩) h.lt).trans h.f1⟩
theorem B2.alloc {w : World} {g : Nat} {c0 c1 : Value} (h : B2 w g c0 c1) (o : Obj) : B2 (w.alloc o) g c0 c1 := h.next ((Below.refl _ _).alloc (Nat.le_refl _) o)
theorem B2.new (w : World) (c0 c1 : Value) (t : TypeId) : B2 (w.alloc (.cells #[c0, c1] t)) w.heap.size c0 c1 := ⟨by simp, by simp, by simp, by simp⟩
theorem B2.set {w : World} {g : Nat} {c0 c1 : Value} (h : B2 w g c0 c1) (d0 d1 : Value) : B2 ((w.setCell ⟨g, 0, none⟩ d0).setCell ⟨g, 1, none⟩ d1) g d0 d1 :=
  ⟨(World.cell?_setCell_other _ _ _ _ (by simp)).trans (World.cell?_setCell_same _ _ _ h.x0), World.cell?_setCell_same _ _ _ ((World.cell?_setCell_other _ _ _ _ (by simp)).trans h.x1),
   (World.frozen?_setCell _ _ _ _).trans ((World.frozen?_setCell _ _ _ _).trans h.f0), (World.frozen?_setCell _ _ _ _).trans ((World.frozen?_setCell _ _ _ _).trans h.f1)⟩
theorem B2.other {w : World} {g g' : Nat} {c0 c1 : Value} (h : B2 w g c0 c1) (hne : g ≠ g') (d0 d1 : Value) : B2 ((w.setCell ⟨g', 0, none⟩ d0).setCell ⟨g', 1, none⟩ d1) g c0 c1 :=
  ⟨(World.cell?_setCell_other _ _ _ _ (by simp [hne, hne.symm])).trans ((World.cell?_setCell_other _ _ _ _ (by simp [hne, hne.symm])).trans h.x0), (World.cell?_setCell_other _ _ _ _ (by simp [hne, hne.symm])).trans ((World.cell?_setCell_other _ _ _ _ (by simp [hne, hne.symm])).trans h.x1),
   (World.frozen?_setCell _ _ _ _).trans ((World.frozen?_setCell _ _ _ _).trans h.f0), (World.frozen?_setCell _ _ _ _).trans ((World.frozen?_setCell _ _ _ _).trans h.f1)⟩
theorem B2.drew {w : World} {g : Nat} {c0 c1 : Value} (h : B2 w g c0 c1) : B2 w.drew g c0 c1 := ⟨h.x0, h.x1, h.f0, h.f1⟩
/-- The four boxes of pushTurn: x, w, and what it answers. -/
structure B4 (w : World) (g : Nat) (v n a b : Value) : Prop where
  x : B2 w g v n
  p : B2 w (g + 1) a b
  r : B2 w (g + 1 + 1) (.slice none 0 0) (.int .i64 0)
  s : B2 w (g + 1 + 1 + 1) (.int .i64 0) (.int .i64 0)
theorem B4.next {w w' : World} {g : Nat} {v n a b : Value} (h : B4 w g v n a b) (hb : Below w.heap.size w w') : B4 w' g v n a b := ⟨h.x.next hb, h.p.next hb, h.r.next hb, h.s.next hb⟩
theorem B4.drew {w : World} {g : Nat} {v n a b : Value} (h : B4 w g v n a b) : B4 w.drew g v n a b := ⟨h.x.drew, h.p.drew, h.r.drew, h.s.drew⟩
theorem B4.setX {w : World} {g : Nat} {v n a b : Value} (h : B4 w g v n a b) (v' n' : Value) : B4 ((w.setCell ⟨g, 0, none⟩ v').setCell ⟨g, 1, none⟩ n') g v' n' a b :=
  ⟨h.x.set _ _, h.p.other (by omega) _ _, h.r.other (by omega) _ _, h.s.other (by omega) _ _⟩
theorem B4.setW {w : World} {g : Nat} {v n a b : Value} (h : B4 w g v n a b) (a' b' : Value) : B4 ((w.setCell ⟨g + 1, 0, none⟩ a').setCell ⟨g + 1, 1, none⟩ b') g v n a' b' :=
  ⟨h.x.other (by omega) _ _, h.p.set _ _, h.r.other (by omega) _ _, h.s.other (by omega) _ _⟩
theorem B4.new (w : World) (v n a b : Value) : B4 ((((w.alloc (.cells #[v, n] 43)).alloc (.cells #[a, b] 76)).alloc (.cells #[.slice none 0 0, .int .i64 0] 43)).alloc (.cells #[.int .i64 0, .int .i64 0] 76)) w.heap.size v n a b := by
  refine ⟨(((B2.new w v n _).alloc _).alloc _).alloc _, ?_, ?_, ?_⟩
  · have h := ((B2.new (w.alloc (.cells #[v, n] 43)) a b 76).alloc (.cells #[.slice none 0 0, .int .i64 0] 43)).alloc (.cells #[.int .i64 0, .int .i64 0] 76)
    simpa using h
  · have h := (B2.new ((w.alloc (.cells #[v, n] 43)).alloc (.cells #[a, b] 76)) (.slice none 0 0) (.int .i64 0) 43).alloc (.cells #[.int .i64 0, .int .i64 0] 76)
    simpa using h
  · have h := B2.new (((w.alloc (.cells #[v, n] 43)).alloc (.cells #[a, b] 76)).alloc (.cells #[.slice none 0 0, .int .i64 0] 43)) (.int .i64 0) (.int .i64 0) 76
    simpa using h
theorem below_set2 {w W : World} {g : Nat} (h : Below w.heap.size w W) (hg : w.heap.size ≤ g) (d0 d1 : Value) : Below w.heap.size w ((W.setCell ⟨g, 0, none⟩ d0).setCell ⟨g, 1, none⟩ d1) := (h.setCell hg _).setCell hg _
theorem own_set2 {W : World} {g base : Nat} {v : Value} {l : List Int} (h : OwnB W base v l) (hg : g < base) (d0 d1 : Value) : OwnB ((W.setCell ⟨g, 0, none⟩ d0).setCell ⟨g, 1, none⟩ d1) base v l := ownsRow_setCell_below (ownsRow_setCell_below h hg _) hg _
theorem below4 (w : World) (o1 o2 o3 o4 : Obj) : Below w.heap.size w ((((w.alloc o1).alloc o2).alloc o3).alloc o4) :=
  ((((Below.refl _ _).alloc (Nat.le_refl _) _).alloc (by simp) _).alloc (by simp; omega) _).alloc (by simp; omega) _

set_option maxHeartbeats 1000000 in
theorem pt_zero (v : Value) (bs : List Bool) (a b : Int) (w : World) (hr : RowB w v (P.pack bs)) (hl : bs.length + 78 ≤ 80000) :
    Calls Tryd.prog 41 #[.agg #[v, .int .i64 bs.length], .int .u64 0, winV a b] w fun e w' =>
      ∃ vy, e = .returned (.tuple #[.agg #[vy, .int .i64 ((bs ++ P.ofVal 0 1).length : Nat)], winV a b]) ∧ OwnB w' w.heap.size vy (P.pack (bs ++ P.ofVal 0 1)) ∧ Below w.heap.size w w' := by
  have HP1 : Hid (∀ w : World, RowB w v (P.pack bs) → Calls Tryd.prog 39 #[.agg #[v, .int .i64 bs.length], .int .u64 0, .int .i64 1] w fun e w' =>
      ∃ vy, e = .returned (.agg #[vy, .int .i64 ((bs ++ P.ofVal 0 1).length : Nat)]) ∧ OwnB w' w.heap.size vy (P.pack (bs ++ P.ofVal 0 1)) ∧ Below w.heap.size w w') :=
    fun w hr => xpush_bits v bs 0 1 w hr (by decide) (by decide) (by decide) (by omega)
  generalize bs ++ P.ofVal 0 1 = zs at HP1 ⊢
  have hN := B4.new w v (.int .i64 bs.length) (.int .i64 a) (.int .i64 b)
  have hbN := below4 w (.cells #[v, .int .i64 bs.length] 43) (.cells #[.int .i64 a, .int .i64 b] 76) (.cells #[.slice none 0 0, .int .i64 0] 43) (.cells #[.int .i64 0, .int .i64 0] 76)
  generalize hW : World.alloc _ (.cells #[.int .i64 0, .int .i64 0] 76) = W at hN hbN
  have HW := hide hW
  clear hW
  go_enter Tryd.func41, Tryd.ntmps41
  go_wp2_with fail
  rw [HW.out]
  have hN' := hN.drew
  have hlt := hN.s.lt
  obtain ⟨⟨x0, x1, xf0, xf1⟩, ⟨a0, a1, af0, af1⟩, ⟨r0, r1, rf0, rf1⟩, ⟨s0, s1, sf0, sf1⟩⟩ := hN
  have d0 := hN'.x.x0; have d1 := hN'.x.x1; have d2 := hN'.p.x0; have d3 := hN'.p.x1
  go_region_held3 (fun wx => wx.cell? ⟨w.heap.size, 0, none⟩ = some (v) ∧ wx.cell? ⟨w.heap.size, 1, none⟩ = some (.int .i64 (bs).length) ∧ wx.cell? ⟨w.heap.size + 1, 0, none⟩ = some (.int .i64 a) ∧ wx.cell? ⟨w.heap.size + 1, 1, none⟩ = some (.int .i64 b)) (refine ⟨?_, ?_, ?_, ?_⟩ <;> ((repeat (with_reducible refine (World.cell?_setCell_other _ _ _ _ (by simp)).trans ?_)); with_reducible assumption)) (first
    | (go_at_call 39; refine (HP1.out _ (hr.below hbN.drew (Nat.le_refl _))).mono ?_; rintro e w5 ⟨vy, rfl, hown, hb5⟩; obtain ⟨ay, capy, hvy⟩ := hown.shp; rw [hvy] at hown ⊢; clear hvy; have hN5 := hN'.next hb5; obtain ⟨⟨x0', x1', xf0', xf1'⟩, ⟨a0', a1', af0', af1'⟩, ⟨r0', r1', rf0', rf1'⟩, ⟨s0', s1', sf0', sf1'⟩⟩ := hN'.next hb5; have hb6 := Below.next hbN.drew hb5; have hsz := hb5.size; have hWz : W.drew.heap.size = W.heap.size := rfl))
  go_wp2
  clear hlt
  have hlt := hWz ▸ hN'.s.lt
  have q1 := (hN5.r.set (.slice ay (P.pack zs).length capy) (.int .i64 (zs.length : Nat))).other (g' := w.heap.size + 1 + 1 + 1) (by omega) (.int .i64 a) (.int .i64 b)
  have q2 := (hN5.s.other (g' := w.heap.size + 1 + 1) (by omega) (.slice ay (P.pack zs).length capy) (.int .i64 (zs.length : Nat))).set (.int .i64 a) (.int .i64 b)
  refine bodyPost_ret (v := .tuple #[.agg #[.slice ay (P.pack zs).length capy, .int .i64 (zs.length : Nat)], winV a b]) (by simp [results, Tryd.results41, go_sem, q1.x0, q1.x1, q2.x0, q2.x1]) rfl ⟨_, rfl, ?_, ?_⟩
  · exact OwnB.base (ownsRow_setCell_below (ownsRow_setCell_below (ownsRow_setCell_below (ownsRow_setCell_below hown (by simp; omega) _) (by simp; omega) _) (by simp; omega) _) (by simp; omega) _) (by omega)
  · exact (((hb6.setCell (by simp; omega) _).setCell (by simp; omega) _).setCell (by simp; omega) _).setCell (by simp; omega) _
end X
end Go.Proofs.YtfjbdgkdkbcnhaaDoor
