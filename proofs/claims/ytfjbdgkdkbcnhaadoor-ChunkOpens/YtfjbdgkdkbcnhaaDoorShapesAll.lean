/- Several texts in one. -/
import Derived.Test.YtfjbdgkdkbcnhaaDoorPlainAll
import Derived.Test.YtfjbdgkdkbcnhaaDoorCards
import Derived.Test.YtfjbdgkdkbcnhaaDoorTie
import Derived.Deep.DeepHandedRow
import Derived.Lib.LaidTab
import Derived.Deep.QuietTactic
import Derived.BigQuiet
/- The listed table delta.shapes: what its fifteen cells hold, and a world that holds it. -/
namespace Go.Proofs.YtfjbdgkdkbcnhaaDoor
open P
namespace D
open Go.ChangeShapes Go.WideShapes Go.ChangeAt Go.RowKit Go.Joins
set_option linter.unusedVariables false

theorem gShapes : Tryd.prog.globalNamed "gaugehouse/delta.shapes" = some 0 := by kernel_rfl
theorem gShapesType : (Tryd.prog.globals[0]?).map (·.type) = some 114 := by kernel_rfl
theorem cells95 : Tryd.prog.cellsOf 95 = 3 := by kernel_rfl
theorem cells114 : Tryd.prog.cellsOf 114 = 15 := by kernel_rfl
theorem cells50 : Tryd.prog.cellsOf 50 = 1 := by kernel_rfl
theorem cells3 : Tryd.prog.cellsOf 3 = 1 := by kernel_rfl

/-- What the table's cells hold. -/
def shapeCells : List Value := [.int .u64 0, .int .i64 1, .int .i64 0, .int .u64 2, .int .i64 2, .int .i64 7, .int .u64 6, .int .i64 3, .int .i64 9, .int .u64 14, .int .i64 4, .int .i64 12, .int .u64 15, .int .i64 4, .int .i64 64]
def Shp (w : World) : Prop := 0 < w.heap.size ∧ ∀ i : Nat, i < 15 → w.cell? ⟨0, i, none⟩ = shapeCells[i]?
theorem Shp.below {w w' : World} {B : Nat} (h : Shp w) (hb : Below B w w') (hB : 0 < B) : Shp w' :=
  ⟨Nat.lt_of_lt_of_le h.1 hb.size, fun i hi => (hb.cell (p := ⟨0, i, none⟩) hB).trans (h.2 i hi)⟩
theorem Shp.next {w w' : World} (h : Shp w) (hb : Below w.heap.size w w') : Shp w' := h.below hb h.1

set_option maxRecDepth 100000 in
theorem one_shape {W : World} {sp : Nat → Bool} {held : Bool} {fuel : Nat} {cs : List Value} {x : DataW Unit × List MemPlace} {enc : TypeId × Value → Unit} (h : DataW.trod enc Tryd.prog W 0 sp held fuel 95 cs = some x) :
    ∃ a b c : Int, cs = [.int .u64 a, .int .i64 b, .int .i64 c] ∧ x.1 = .agg [.lit (.int .u64 a), .lit (.int .i64 b), .lit (.int .i64 c)] := by
  obtain ⟨xs, n, _, rfl, hl, hlen, hf⟩ := DataW.trod_struct Tryd.underlying95 h
  rw [cells95] at hl
  match cs, hl with
  | [c0, c1, c2], _ =>
    have h0 : DataW.trod enc Tryd.prog W 0 sp held n 50 ([c0, c1, c2].take (Tryd.prog.cellsOf 50)) = xs[0]? := hf 0 _ rfl
    have h1 : DataW.trod enc Tryd.prog W 0 sp held n 3 ([c1, c2].take (Tryd.prog.cellsOf 3)) = xs[1]? := hf 1 _ rfl
    have h2 : DataW.trod enc Tryd.prog W 0 sp held n 3 ([c2].take (Tryd.prog.cellsOf 3)) = xs[2]? := hf 2 _ rfl
    rw [cells50] at h0
    rw [cells3] at h1 h2
    match xs, hlen with
    | [x0, x1, x2], _ =>
      obtain ⟨a, e0, f0, _⟩ := DataW.trod_int Tryd.underlying50 h0
      obtain ⟨b, e1, f1, _⟩ := DataW.trod_int Tryd.underlying3 h1
      obtain ⟨c, e2, f2, _⟩ := DataW.trod_int Tryd.underlying3 h2
      simp at e0 e1 e2
      refine ⟨a, b, c, by rw [e0, e1, e2], ?_⟩
      simp [f0, f1, f2]

set_option maxRecDepth 100000 in
theorem shp_of_head {W : World} {rest : List (String × DataW Unit)} (h : laidMet Tryd.prog (("gaugehouse/delta.shapes", Rows.laid_gaugehouse_delta_shapes) :: rest) W) : Shp W := by
  obtain ⟨ps, ⟨g0, t0, cs0, f0, p0, q0, hg0, ht0, hv0, hd0, _, _⟩, _, _⟩ := h
  obtain rfl := Option.some.inj (gShapes.symm.trans hg0)
  obtain rfl := Option.some.inj (gShapesType.symm.trans ht0)
  obtain ⟨xs, m1, rfl, hx1, hlen, hn, hel⟩ := DataW.trod_array Tryd.underlying114 hd0
  rw [cells114] at hlen
  rw [cells95] at hel
  have hcs : cs0.toList = shapeCells := by
    match xs, hn with
    | [x0, x1, x2, x3, x4], _ =>
      have hx := congrArg Prod.fst hx1
      simp only [Rows.laid_gaugehouse_delta_shapes, List.map_cons, List.map_nil, DataW.agg.injEq, List.cons.injEq, and_true] at hx
      obtain ⟨y0, y1, y2, y3, y4⟩ := hx
      obtain ⟨a0, b0, c0, e0, k0⟩ := one_shape (hel 0 (by decide))
      obtain ⟨a1, b1, c1, e1, k1⟩ := one_shape (hel 1 (by decide))
      obtain ⟨a2, b2, c2, e2, k2⟩ := one_shape (hel 2 (by decide))
      obtain ⟨a3, b3, c3, e3, k3⟩ := one_shape (hel 3 (by decide))
      obtain ⟨a4, b4, c4, e4, k4⟩ := one_shape (hel 4 (by decide))
      rw [← y0] at k0; rw [← y1] at k1; rw [← y2] at k2; rw [← y3] at k3; rw [← y4] at k4
      simp at k0 k1 k2 k3 k4
      obtain ⟨rfl, rfl, rfl⟩ := k0
      obtain ⟨rfl, rfl, rfl⟩ := k1
      obtain ⟨rfl, rfl, rfl⟩ := k2
      obtain ⟨rfl, rfl, rfl⟩ := k3
      obtain ⟨rfl, rfl, rfl⟩ := k4
      match hl : cs0.toList, hlen with
      | [z0, z1, z2, z3, z4, z5, z6, z7, z8, z9, z10, z11, z12, z13, z14], _ =>
        rw [hl] at e0 e1 e2 e3 e4
        simp at e0 e1 e2 e3 e4
        simp [shapeCells, e0, e1, e2, e3, e4]
  refine ⟨?_, fun i hi => ?_⟩
  · have h0 := World.var?_cell hg0 hv0 0
    have e : cs0[0]? = some (.int .u64 0) := by rw [← Array.getElem?_toList, hcs]; rfl
    rw [e] at h0
    exact World.block_lt_of_cell? W _ h0
  · have h0 := World.var?_cell hg0 hv0 i
    rw [← Array.getElem?_toList, hcs] at h0
    exact h0

theorem laid_of {W : World} (h : laidMetH Tryd.prog [("gaugehouse/delta.shapes", Rows.laid_gaugehouse_delta_shapes)] W) : Shp W := by
  rw [MakeChecks.laidMetH_plain _ _ _ (by kernel_rfl)] at h
  exact shp_of_head h
/-- A world for the witness: the settled one, the table holding what its initialiser lays. -/
noncomputable def laidWorld (os : Os) : World :=
  { World.holding Tryd.prog os ⟨#[], #[], []⟩ with heap := (World.holding Tryd.prog os ⟨#[], #[], []⟩).heap.modify 0 fun
      | .cells _ t frozen => .cells shapeCells.toArray t frozen
      | o => o }
end D
end Go.Proofs.YtfjbdgkdkbcnhaaDoor
/- Plain: times as bits: the classes of a change, its bits, and what Pack makes of a list. -/
namespace Go.Proofs.YtfjbdgkdkbcnhaaDoor
open P
namespace D
namespace P
open Go.RowKit (wrap64)
def cls (c : Int) : Nat := if c = 0 then 0 else if -64 ≤ c ∧ c ≤ 63 then 1 else if -256 ≤ c ∧ c ≤ 255 then 2 else if -2048 ≤ c ∧ c ≤ 2047 then 3 else 4
def hv (k : Nat) : Nat := if k = 0 then 0 else if k = 1 then 2 else if k = 2 then 6 else if k = 3 then 14 else 15
def hb (k : Nat) : Nat := if k = 0 then 1 else if k = 1 then 2 else if k = 2 then 3 else 4
def wd (k : Nat) : Nat := if k = 0 then 0 else if k = 1 then 7 else if k = 2 then 9 else if k = 3 then 12 else 64
def u64 (x : Int) : Nat := (x % 18446744073709551616).toNat
/-- The bits of a change of class k. -/
def chgK (k : Nat) (c : Int) : List Bool := ofVal (hv k) (hb k) ++ ofVal (u64 c % 2 ^ wd k) (wd k)
def chg (c : Int) : List Bool := chgK (cls c) c
def stp (l : List Int) (j : Nat) : Int := if j ≤ 1 then 0 else wrap64 (l.getD (j - 1) 0 - l.getD (j - 2) 0)
def lst (l : List Int) (j : Nat) : Int := if j = 0 then 0 else l.getD (j - 1) 0
def cg (l : List Int) (j : Nat) : Int := wrap64 (wrap64 (l.getD j 0 - l.getD (j - 1) 0) - stp l j)
/-- The bits of the number at j. -/
def tb (l : List Int) (j : Nat) : List Bool := if j = 0 then ofVal (u64 (l.getD 0 0)) 64 else chg (cg l j)
def front (l : List Int) (n j : Nat) : List Bool := ofVal n 16 ++ (List.range j).flatMap (tb l)
def packT (l : List Int) : List Bool := front l l.length l.length
def I64 (l : List Int) : Prop := ∀ x ∈ l, -9223372036854775808 ≤ x ∧ x ≤ 9223372036854775807
theorem I64.at {l : List Int} (h : I64 l) (j : Nat) : -9223372036854775808 ≤ l.getD j 0 ∧ l.getD j 0 ≤ 9223372036854775807 := by
  by_cases hj : j < l.length
  · have := h l[j] (List.getElem_mem hj)
    simpa [List.getD_eq_getElem?_getD, List.getElem?_eq_getElem hj] using this
  · simp [List.getD_eq_getElem?_getD, List.getElem?_eq_none (Nat.le_of_not_lt hj)]
theorem wrap64_lo (x : Int) : -9223372036854775808 ≤ wrap64 x := by unfold wrap64; omega
theorem wrap64_hi (x : Int) : wrap64 x ≤ 9223372036854775807 := by unfold wrap64; omega
theorem wrap64_id (x : Int) (h0 : -9223372036854775808 ≤ x) (h1 : x ≤ 9223372036854775807) : wrap64 x = x := by unfold wrap64; omega
theorem cls_le (c : Int) : cls c ≤ 4 := by unfold cls; (repeat' split) <;> omega
theorem u64_lt (x : Int) : u64 x < 18446744073709551616 := by unfold u64; omega
theorem hb_le (k : Nat) : hb k ≤ 4 := by unfold hb; (repeat' split) <;> omega
theorem wd_le (k : Nat) : wd k ≤ 64 := by unfold wd; (repeat' split) <;> omega
theorem chgK_len (k : Nat) (c : Int) : (chgK k c).length = hb k + wd k := by simp [chgK, ofVal_len]
theorem chg_len (c : Int) : (chg c).length = hb (cls c) + wd (cls c) := chgK_len _ _
theorem chg_le (c : Int) : (chg c).length ≤ 68 := by
  have := hb_le (cls c); have := wd_le (cls c); rw [chg_len]; omega
theorem front_zero (l : List Int) (n : Nat) : front l n 0 = ofVal n 16 := by simp [front]
theorem front_succ (l : List Int) (n j : Nat) : front l n (j + 1) = front l n j ++ tb l j := by
  unfold front; rw [List.range_succ, List.flatMap_append]; simp
theorem tb_le (l : List Int) (j : Nat) : (tb l j).length ≤ 68 := by
  unfold tb; split
  · rw [ofVal_len]; omega
  · exact chg_le _
theorem front_le (l : List Int) (n j : Nat) : (front l n j).length ≤ 16 + 68 * j := by
  induction j with
  | zero => rw [front_zero, ofVal_len]; omega
  | succ j ih => rw [front_succ, List.length_append]; have := tb_le l j; omega
theorem front_ge (l : List Int) (n j : Nat) : 16 ≤ (front l n j).length := by
  unfold front; rw [List.length_append, ofVal_len]; omega
/-- What stands further behind is no matter. -/
theorem tb_app (l m : List Int) (j : Nat) (h : j < l.length) : tb (l ++ m) j = tb l j := by
  have e : ∀ i, i < l.length → (l ++ m).getD i 0 = l.getD i 0 := by
    intro i hi
    rw [List.getD_eq_getElem?_getD, List.getD_eq_getElem?_getD, List.getElem?_append_left hi]
  unfold tb cg stp
  rw [e j h, e (j - 1) (by omega), e (j - 2) (by omega), e 0 (by omega)]
theorem front_app (l m : List Int) (n j : Nat) (h : j ≤ l.length) : front (l ++ m) n j = front l n j := by
  induction j with
  | zero => rw [front_zero, front_zero]
  | succ j ih => rw [front_succ, front_succ, ih (by omega), tb_app l m j (by omega)]
end P
end D
end Go.Proofs.YtfjbdgkdkbcnhaaDoor
/- What delta.signed and delta.shapeOf answer. -/
namespace Go.Proofs.YtfjbdgkdkbcnhaaDoor
open P
namespace D
open Go.RowKit
set_option linter.unusedVariables false

/-- The number that the lowest n bits of u are. -/
def sgn (u : Int) (n : Nat) : Int := wrap64 (IntKind.u64.wrap (u * 2 ^ (64 - n))) / 2 ^ (64 - n)
theorem signed_any (u : Int) (n : Nat) (w : World) (u0 : 0 ≤ u) (u1 : u ≤ 18446744073709551615) (hn : n ≤ 64) :
    Calls Tryd.prog 69 #[.int .u64 u, .int .i64 n] w fun e w' => e = .returned (.int .i64 (sgn u n)) ∧ w' = w := by
  go_enter Tryd.func69, Tryd.ntmps69
  go_wp2
  go_ret
  exact ⟨rfl, rfl⟩

theorem sgn0 (u : Int) : sgn u 0 = 0 := by
  unfold sgn; rw [IntKind.wrap_u64]; unfold wrap64; simp
theorem sgn7 (u : Int) : sgn u 7 = (u + 64) % 128 - 64 := by
  unfold sgn; rw [IntKind.wrap_u64]; unfold wrap64; simp; omega
theorem sgn9 (u : Int) : sgn u 9 = (u + 256) % 512 - 256 := by
  unfold sgn; rw [IntKind.wrap_u64]; unfold wrap64; simp; omega
theorem sgn12 (u : Int) : sgn u 12 = (u + 2048) % 4096 - 2048 := by
  unfold sgn; rw [IntKind.wrap_u64]; unfold wrap64; simp; omega
theorem sgn64 (u : Int) : sgn u 64 = wrap64 u := by
  unfold sgn; rw [IntKind.wrap_u64]; unfold wrap64; simp
/-- A change's class is the first width that holds it. -/
theorem sgn_ne (c : Int) (j : Nat) (h : j < P.cls c) : sgn (IntKind.u64.wrap c) (P.wd j) ≠ c := by
  have h4 := P.cls_le c
  rw [IntKind.wrap_u64]
  match j, h with
  | 0, h => show sgn _ 0 ≠ c; rw [sgn0]; unfold P.cls at h; split at h <;> omega
  | 1, h => show sgn _ 7 ≠ c; rw [sgn7]; unfold P.cls at h; (repeat' split at h) <;> omega
  | 2, h => show sgn _ 9 ≠ c; rw [sgn9]; unfold P.cls at h; (repeat' split at h) <;> omega
  | 3, h => show sgn _ 12 ≠ c; rw [sgn12]; unfold P.cls at h; (repeat' split at h) <;> omega
  | (n + 4), h => omega
theorem sgn_eq (c : Int) (h0 : -9223372036854775808 ≤ c) (h1 : c ≤ 9223372036854775807) : sgn (IntKind.u64.wrap c) (P.wd (P.cls c)) = c := by
  rw [IntKind.wrap_u64]
  unfold P.cls
  by_cases e0 : c = 0
  · rw [if_pos e0]; show sgn _ 0 = c; rw [sgn0]; omega
  rw [if_neg e0]
  by_cases e1 : -64 ≤ c ∧ c ≤ 63
  · rw [if_pos e1]; show sgn _ 7 = c; rw [sgn7]; omega
  rw [if_neg e1]
  by_cases e2 : -256 ≤ c ∧ c ≤ 255
  · rw [if_pos e2]; show sgn _ 9 = c; rw [sgn9]; omega
  rw [if_neg e2]
  by_cases e3 : -2048 ≤ c ∧ c ≤ 2047
  · rw [if_pos e3]; show sgn _ 12 = c; rw [sgn12]; omega
  rw [if_neg e3]; show sgn _ 64 = c; rw [sgn64]; unfold wrap64; omega

/-- A shape as a value. -/
def shapeV (k : Nat) : Value := .agg #[.int .u64 (P.hv k : Nat), .int .i64 (P.hb k : Nat), .int .i64 (P.wd k : Nat)]
theorem Shp.all {w : World} (h : Shp w) : w.cell? ⟨0, 0, none⟩ = some (.int .u64 0) ∧ w.cell? ⟨0, 1, none⟩ = some (.int .i64 1) ∧ w.cell? ⟨0, 2, none⟩ = some (.int .i64 0) ∧
    w.cell? ⟨0, 3, none⟩ = some (.int .u64 2) ∧ w.cell? ⟨0, 4, none⟩ = some (.int .i64 2) ∧ w.cell? ⟨0, 5, none⟩ = some (.int .i64 7) ∧
    w.cell? ⟨0, 6, none⟩ = some (.int .u64 6) ∧ w.cell? ⟨0, 7, none⟩ = some (.int .i64 3) ∧ w.cell? ⟨0, 8, none⟩ = some (.int .i64 9) ∧
    w.cell? ⟨0, 9, none⟩ = some (.int .u64 14) ∧ w.cell? ⟨0, 10, none⟩ = some (.int .i64 4) ∧ w.cell? ⟨0, 11, none⟩ = some (.int .i64 12) ∧
    w.cell? ⟨0, 12, none⟩ = some (.int .u64 15) ∧ w.cell? ⟨0, 13, none⟩ = some (.int .i64 4) ∧ w.cell? ⟨0, 14, none⟩ = some (.int .i64 64) :=
  ⟨h.2 0 (by decide), h.2 1 (by decide), h.2 2 (by decide), h.2 3 (by decide), h.2 4 (by decide), h.2 5 (by decide), h.2 6 (by decide), h.2 7 (by decide), h.2 8 (by decide), h.2 9 (by decide), h.2 10 (by decide), h.2 11 (by decide), h.2 12 (by decide), h.2 13 (by decide), h.2 14 (by decide)⟩

set_option maxHeartbeats 1000000 in
theorem shapeOf_any (c : Int) (w : World) (h0 : -9223372036854775808 ≤ c) (h1 : c ≤ 9223372036854775807) (hs : Shp w) :
    Calls Tryd.prog 56 #[.int .i64 c] w fun e w' => e = .returned (shapeV (P.cls c)) ∧ Below w.heap.size w w' := by
  have hu := (IntKind.wrap_u64 c)
  have u0 : 0 ≤ IntKind.u64.wrap c := by rw [hu]; omega
  have u1 : IntKind.u64.wrap c ≤ 18446744073709551615 := by rw [hu]; omega
  have HN := hide (sgn_ne c)
  have HE := hide (sgn_eq c h0 h1)
  have HU : Hid (∀ (n : Nat) (w : World), n ≤ 64 → Calls Tryd.prog 69 #[.int .u64 (IntKind.u64.wrap c), .int .i64 n] w fun e w' => e = .returned (.int .i64 (sgn (IntKind.u64.wrap c) n)) ∧ w' = w) :=
    fun n w hn => signed_any _ n w u0 u1 hn
  have h4 := P.cls_le c
  clear hu u0 u1
  generalize hW : w.alloc (.cells #[.int .u64 0, .int .i64 0, .int .i64 0] 95) = W
  have hbW : Below w.heap.size w W := by rw [← hW]; exact (Below.refl _ _).alloc (Nat.le_refl _) _
  have r0 : W.cell? ⟨w.heap.size, 0, none⟩ = some (.int .u64 0) := by rw [← hW]; simp
  have r1 : W.cell? ⟨w.heap.size, 1, none⟩ = some (.int .i64 0) := by rw [← hW]; simp
  have r2 : W.cell? ⟨w.heap.size, 2, none⟩ = some (.int .i64 0) := by rw [← hW]; simp
  have f0 : W.frozen? ⟨w.heap.size, 0, none⟩ = false := by rw [← hW]; simp
  have f1 : W.frozen? ⟨w.heap.size, 1, none⟩ = false := by rw [← hW]; simp
  have f2 : W.frozen? ⟨w.heap.size, 2, none⟩ = false := by rw [← hW]; simp
  obtain ⟨c0, c1, c2, c3, c4, c5, c6, c7, c8, c9, c10, c11, c12, c13, c14⟩ := (hs.next hbW).all
  have HW := hide hW
  clear hW hs
  go_enter Tryd.func56, Tryd.ntmps56
  go_wp2
  rw [HW.out]
  go_loop [3] (fun i => ∃ j : Nat, j ≤ P.cls c ∧ i = .int .i64 j) (fun i => 5 - (intOf i).toNat)
  case atStart => exact ⟨0, by omega, rfl⟩
  case round =>
    obtain ⟨j, hj, rfl⟩ := hrel
    by_cases hlt : j < P.cls c
    · have hne := HN.out j hlt
      have hst : Hid (j + 1 ≤ P.cls c) := hlt
      match j, hlt, hne, hst with
      | 0, _, hne, hst =>
        have hsg := HU.out 0
        have hd : (sgn (IntKind.u64.wrap c) 0 != c) = true := bne_iff_ne.2 hne
        clear hne
        go_wp2_with (go_at_call 69; refine (hsg _ (by decide)).mono ?_; rintro e w' ⟨rfl, rfl⟩)
        go_round
        case rel => exact ⟨1, hst, by go_num⟩
        case measure => simp [intOf]
      | 1, _, hne, hst =>
        have hsg := HU.out 7
        have hd : (sgn (IntKind.u64.wrap c) 7 != c) = true := bne_iff_ne.2 hne
        clear hne
        go_wp2_with (go_at_call 69; refine (hsg _ (by decide)).mono ?_; rintro e w' ⟨rfl, rfl⟩)
        go_round
        case rel => exact ⟨2, hst, by go_num⟩
        case measure => simp [intOf]
      | 2, _, hne, hst =>
        have hsg := HU.out 9
        have hd : (sgn (IntKind.u64.wrap c) 9 != c) = true := bne_iff_ne.2 hne
        clear hne
        go_wp2_with (go_at_call 69; refine (hsg _ (by decide)).mono ?_; rintro e w' ⟨rfl, rfl⟩)
        go_round
        case rel => exact ⟨3, hst, by go_num⟩
        case measure => simp [intOf]
      | 3, _, hne, hst =>
        have hsg := HU.out 12
        have hd : (sgn (IntKind.u64.wrap c) 12 != c) = true := bne_iff_ne.2 hne
        clear hne
        go_wp2_with (go_at_call 69; refine (hsg _ (by decide)).mono ?_; rintro e w' ⟨rfl, rfl⟩)
        go_round
        case rel => exact ⟨4, hst, by go_num⟩
        case measure => simp [intOf]
      | (n + 4), h, _, _ => omega
    · obtain rfl : j = P.cls c := by omega
      have he := HE.out
      clear HN HE hj hlt
      generalize hk : P.cls c = k at he h4 ⊢
      have HK := hide hk
      clear hk
      match k, h4, he, HK with
      | 0, _, he, HK =>
        have hsg := HU.out 0
        have hd : (sgn (IntKind.u64.wrap c) 0 != c) = false := bne_eq_false_iff_eq.2 he
        clear he
        go_wp2_with (go_at_call 69; refine (hsg _ (by decide)).mono ?_; rintro e w' ⟨rfl, rfl⟩)
        exact bodyPost_ret (v := shapeV 0) (by simp [results, Tryd.results56, go_sem, r0, r1, r2]; rfl) rfl ⟨by rw [HK.out], ((hbW.setCell (by simp) _).setCell (by simp) _).setCell (by simp) _⟩
      | 1, _, he, HK =>
        have hsg := HU.out 7
        have hd : (sgn (IntKind.u64.wrap c) 7 != c) = false := bne_eq_false_iff_eq.2 he
        clear he
        go_wp2_with (go_at_call 69; refine (hsg _ (by decide)).mono ?_; rintro e w' ⟨rfl, rfl⟩)
        exact bodyPost_ret (v := shapeV 1) (by simp [results, Tryd.results56, go_sem, r0, r1, r2]; rfl) rfl ⟨by rw [HK.out], ((hbW.setCell (by simp) _).setCell (by simp) _).setCell (by simp) _⟩
      | 2, _, he, HK =>
        have hsg := HU.out 9
        have hd : (sgn (IntKind.u64.wrap c) 9 != c) = false := bne_eq_false_iff_eq.2 he
        clear he
        go_wp2_with (go_at_call 69; refine (hsg _ (by decide)).mono ?_; rintro e w' ⟨rfl, rfl⟩)
        exact bodyPost_ret (v := shapeV 2) (by simp [results, Tryd.results56, go_sem, r0, r1, r2]; rfl) rfl ⟨by rw [HK.out], ((hbW.setCell (by simp) _).setCell (by simp) _).setCell (by simp) _⟩
      | 3, _, he, HK =>
        have hsg := HU.out 12
        have hd : (sgn (IntKind.u64.wrap c) 12 != c) = false := bne_eq_false_iff_eq.2 he
        clear he
        go_wp2_with (go_at_call 69; refine (hsg _ (by decide)).mono ?_; rintro e w' ⟨rfl, rfl⟩)
        exact bodyPost_ret (v := shapeV 3) (by simp [results, Tryd.results56, go_sem, r0, r1, r2]; rfl) rfl ⟨by rw [HK.out], ((hbW.setCell (by simp) _).setCell (by simp) _).setCell (by simp) _⟩
      | 4, _, he, HK =>
        clear he
        go_wp2
        exact bodyPost_ret (v := shapeV 4) (by simp [results, Tryd.results56, go_sem, r0, r1, r2]; rfl) rfl ⟨by rw [HK.out], ((hbW.setCell (by simp) _).setCell (by simp) _).setCell (by simp) _⟩
      | (n + 5), h, _, _ => omega
end D
end Go.Proofs.YtfjbdgkdkbcnhaaDoor
/- Plain: how bits are read as times: heads, changes, lists. -/
namespace Go.Proofs.YtfjbdgkdkbcnhaaDoor
open P
namespace D
namespace P
open Go.RowKit (wrap64)
theorem ofVal_of : ∀ (Y : List Bool) (n : Nat), Y.length = n → ofVal (val Y) n = Y
  | Y, 0, h => by rw [List.length_eq_zero_iff.1 h]; rfl
  | Y, n + 1, h => by
    have hne : Y ≠ [] := by intro e; rw [e] at h; cases h
    have e := List.dropLast_concat_getLast hne
    have ih := ofVal_of Y.dropLast n (by rw [List.length_dropLast]; omega)
    generalize Y.getLast hne = b at e
    generalize Y.dropLast = Z at e ih
    subst e
    rw [ofVal_succ, val_snoc]
    have e1 : (2 * val Z + b.toNat) / 2 = val Z := by cases b <;> simp <;> omega
    have e2 : decide ((2 * val Z + b.toNat) % 2 = 1) = b := by cases b <;> simp <;> omega
    rw [e1, e2, ih]
/-- The head of a change of class k stands at the front. -/
def Head (X : List Bool) (k : Nat) : Prop := k ≤ 4 ∧ X.take (hb k) = ofVal (hv k) (hb k)
theorem head_zero (X : List Bool) (j : Nat) (hj : j < 4) (hX : X.take j = List.replicate j true) (hl : j < X.length) (hb0 : bit X j = 0) : Head X j := by
  have e : X.take (j + 1) = List.replicate j true ++ [false] := by
    rw [List.take_succ_eq_append_getElem hl, hX]
    unfold bit at hb0
    rw [List.getD_eq_getElem?_getD, List.getElem?_eq_getElem hl, Option.getD_some] at hb0
    have : X[j] = false := by cases h : X[j] <;> simp_all
    rw [this]
  match j, hj with
  | 0, _ => exact ⟨by decide, e⟩
  | 1, _ => exact ⟨by decide, e⟩
  | 2, _ => exact ⟨by decide, e⟩
  | 3, _ => exact ⟨by decide, e⟩
theorem head_four (X : List Bool) (hX : X.take 4 = List.replicate 4 true) : Head X 4 := ⟨by decide, hX⟩
theorem ones_next (X : List Bool) (j : Nat) (hX : X.take j = List.replicate j true) (hl : j < X.length) (hb1 : bit X j ≠ 0) : X.take (j + 1) = List.replicate (j + 1) true := by
  rw [List.take_succ_eq_append_getElem hl, hX]
  unfold bit at hb1
  rw [List.getD_eq_getElem?_getD, List.getElem?_eq_getElem hl, Option.getD_some] at hb1
  have : X[j] = true := by cases h : X[j] <;> simp_all
  rw [this, List.replicate_succ']
theorem no_head (X : List Bool) (j : Nat) (hj : j < 4) (hX : X.take j = List.replicate j true) (hl : X.length ≤ j) (k : Nat) : ¬ Head X k := by
  rintro ⟨hk, h⟩
  rw [List.take_of_length_le hl] at hX
  subst hX
  have h2 := congrArg List.length h
  rw [ofVal_len, List.length_take, List.length_replicate] at h2
  have hh : hb k ≤ j := by omega
  match k, hk with
  | 0, _ => match j, hj with
    | 0, _ => simp [hb] at hh
    | 1, _ => simp [hb, hv] at h; revert h; decide
    | 2, _ => simp [hb, hv] at h; revert h; decide
    | 3, _ => simp [hb, hv] at h; revert h; decide
  | 1, _ => match j, hj with
    | 0, _ => simp [hb] at hh
    | 1, _ => simp [hb] at hh
    | 2, _ => simp [hb, hv] at h; revert h; decide
    | 3, _ => simp [hb, hv] at h; revert h; decide
  | 2, _ => match j, hj with
    | 0, _ => simp [hb] at hh
    | 1, _ => simp [hb] at hh
    | 2, _ => simp [hb] at hh
    | 3, _ => simp [hb, hv] at h; revert h; decide
  | 3, _ => simp [hb] at hh; omega
  | 4, _ => simp [hb] at hh; omega
def headOf : List Bool → Nat
  | false :: _ => 0
  | true :: false :: _ => 1
  | true :: true :: false :: _ => 2
  | true :: true :: true :: false :: _ => 3
  | _ => 4
theorem head_of (X : List Bool) (k : Nat) (h : Head X k) : headOf X = k := by
  obtain ⟨hk, h⟩ := h
  match k, hk, h with
  | 0, _, h =>
    have h : X.take 1 = [false] := h
    match X, h with
    | x0 :: X, h => simp at h; subst h; rfl
  | 1, _, h =>
    have h : X.take 2 = [true, false] := h
    match X, h with
    | x0 :: x1 :: X, h => simp at h; obtain ⟨rfl, rfl⟩ := h; rfl
  | 2, _, h =>
    have h : X.take 3 = [true, true, false] := h
    match X, h with
    | x0 :: x1 :: x2 :: X, h => simp at h; obtain ⟨rfl, rfl, rfl⟩ := h; rfl
  | 3, _, h =>
    have h : X.take 4 = [true, true, true, false] := h
    match X, h with
    | x0 :: x1 :: x2 :: x3 :: X, h => simp at h; obtain ⟨rfl, rfl, rfl, rfl⟩ := h; rfl
  | 4, _, h =>
    have h : X.take 4 = [true, true, true, true] := h
    match X, h with
    | x0 :: x1 :: x2 :: x3 :: X, h => simp at h; obtain ⟨rfl, rfl, rfl, rfl⟩ := h; rfl
theorem head_one (X : List Bool) (k k' : Nat) (h : Head X k) (h' : Head X k') : k = k' := (head_of X k h).symm.trans (head_of X k' h')
theorem sgn_mod (x : Nat) (k : Nat) (hk : k ≤ 4) : sgn ((x % 2 ^ wd k : Nat) : Int) (wd k) = sgn (x : Int) (wd k) := by
  match k, hk with
  | 0, _ => show sgn _ 0 = sgn _ 0; rw [sgn0, sgn0]
  | 1, _ => show sgn ((x % 2 ^ 7 : Nat) : Int) 7 = sgn _ 7; rw [sgn7, sgn7]; omega
  | 2, _ => show sgn ((x % 2 ^ 9 : Nat) : Int) 9 = sgn _ 9; rw [sgn9, sgn9]; omega
  | 3, _ => show sgn ((x % 2 ^ 12 : Nat) : Int) 12 = sgn _ 12; rw [sgn12, sgn12]; omega
  | 4, _ => show sgn ((x % 2 ^ 64 : Nat) : Int) 64 = sgn _ 64; rw [sgn64, sgn64]; unfold wrap64; omega
theorem sgn_low (v : Nat) (k : Nat) (hk : k ≤ 4) (hv : v < 2 ^ wd k) : u64 (sgn (v : Int) (wd k)) % 2 ^ wd k = v := by
  unfold u64
  match k, hk, hv with
  | 0, _, hv => show (sgn (v : Int) 0 % _).toNat % 2 ^ 0 = v; have hv : v < 2 ^ 0 := hv; rw [sgn0]; omega
  | 1, _, hv => show (sgn (v : Int) 7 % _).toNat % 2 ^ 7 = v; have hv : v < 2 ^ 7 := hv; rw [sgn7]; omega
  | 2, _, hv => show (sgn (v : Int) 9 % _).toNat % 2 ^ 9 = v; have hv : v < 2 ^ 9 := hv; rw [sgn9]; omega
  | 3, _, hv => show (sgn (v : Int) 12 % _).toNat % 2 ^ 12 = v; have hv : v < 2 ^ 12 := hv; rw [sgn12]; omega
  | 4, _, hv => show (sgn (v : Int) 64 % _).toNat % 2 ^ 64 = v; have hv : v < 2 ^ 64 := hv; rw [sgn64]; unfold wrap64; omega
theorem sgn_lo (v : Nat) (k : Nat) (hk : k ≤ 4) : -9223372036854775808 ≤ sgn (v : Int) (wd k) ∧ sgn (v : Int) (wd k) ≤ 9223372036854775807 := by
  match k, hk with
  | 0, _ => show _ ≤ sgn _ 0 ∧ sgn _ 0 ≤ _; rw [sgn0]; decide
  | 1, _ => show _ ≤ sgn _ 7 ∧ sgn _ 7 ≤ _; rw [sgn7]; omega
  | 2, _ => show _ ≤ sgn _ 9 ∧ sgn _ 9 ≤ _; rw [sgn9]; omega
  | 3, _ => show _ ≤ sgn _ 12 ∧ sgn _ 12 ≤ _; rw [sgn12]; omega
  | 4, _ => show _ ≤ sgn _ 64 ∧ sgn _ 64 ≤ _; rw [sgn64]; exact ⟨wrap64_lo _, wrap64_hi _⟩
/-- xs stands at the front of X. -/
def Fr (X xs : List Bool) : Prop := X.take xs.length = xs
theorem Fr.len {X xs : List Bool} (h : Fr X xs) : xs.length ≤ X.length := by
  have := congrArg List.length h
  rw [List.length_take] at this; omega
theorem fr_app {X xs ys : List Bool} : Fr X (xs ++ ys) ↔ Fr X xs ∧ Fr (X.drop xs.length) ys := by
  unfold Fr
  rw [List.length_append, List.take_add]
  constructor
  · intro h
    have hl := congrArg List.length h
    simp only [List.length_append, List.length_take, List.length_drop] at hl
    exact List.append_inj h (by rw [List.length_take]; omega)
  · rintro ⟨h1, h2⟩; rw [h1, h2]
/-- What is read as a change. -/
theorem read_sound (X : List Bool) (k : Nat) (hh : Head X k) (hl : hb k + wd k ≤ X.length) (c : Int) (hc : c = sgn (val ((X.drop (hb k)).take (wd k)) : Nat) (wd k)) (hcls : cls c = k) : Fr X (chg c) := by
  have hyl : ((X.drop (hb k)).take (wd k)).length = wd k := by rw [List.length_take, List.length_drop]; omega
  have hv := val_lt ((X.drop (hb k)).take (wd k))
  rw [hyl] at hv
  have hy := ofVal_of _ _ hyl
  unfold Fr chg chgK
  rw [hcls, List.length_append, ofVal_len, ofVal_len, List.take_add, hh.2, hc, sgn_low _ _ hh.1 hv, hy]
theorem read_full (X : List Bool) (c : Int) (h0 : -9223372036854775808 ≤ c) (h1 : c ≤ 9223372036854775807) (h : Fr X (chg c)) :
    Head X (cls c) ∧ hb (cls c) + wd (cls c) ≤ X.length ∧ sgn (val ((X.drop (hb (cls c))).take (wd (cls c))) : Nat) (wd (cls c)) = c := by
  have hl := h.len
  rw [chg_len] at hl
  unfold chg chgK at h
  rw [fr_app] at h
  obtain ⟨ha, hb'⟩ := h
  unfold Fr at ha hb'
  rw [ofVal_len] at ha hb'
  rw [ofVal_len] at hb'
  refine ⟨⟨cls_le c, ha⟩, hl, ?_⟩
  rw [hb', val_ofVal _ _ (Nat.mod_lt _ (Nat.pow_pos (by decide))), sgn_mod _ _ (cls_le c)]
  have e : ((u64 c : Nat) : Int) = IntKind.u64.wrap c := by rw [IntKind.wrap_u64]; unfold u64; omega
  rw [e]
  exact sgn_eq c h0 h1
theorem chg_one (X : List Bool) (c c' : Int) (h0 : -9223372036854775808 ≤ c) (h1 : c ≤ 9223372036854775807) (h0' : -9223372036854775808 ≤ c') (h1' : c' ≤ 9223372036854775807) (h : Fr X (chg c)) (h' : Fr X (chg c')) : c = c' := by
  obtain ⟨a1, _, a3⟩ := read_full X c h0 h1 h
  obtain ⟨b1, _, b3⟩ := read_full X c' h0' h1' h'
  have e := head_one X _ _ a1 b1
  rw [← a3, ← b3, e]
end P
end D
end Go.Proofs.YtfjbdgkdkbcnhaaDoor
/- Plain: how bits are read as a list of times, one behind the other. -/
namespace Go.Proofs.YtfjbdgkdkbcnhaaDoor
open P
namespace D
namespace P
open Go.RowKit (wrap64)
theorem fr_front (bs : List Bool) (l : List Int) (n j : Nat) : Fr bs (front l n (j + 1)) ↔ Fr bs (front l n j) ∧ Fr (bs.drop (front l n j).length) (tb l j) := by
  rw [front_succ, fr_app]
theorem fr_mono (bs : List Bool) (l : List Int) (n j k : Nat) (h : j ≤ k) (hf : Fr bs (front l n k)) : Fr bs (front l n j) := by
  induction k with
  | zero => obtain rfl : j = 0 := by omega
            exact hf
  | succ k ih =>
    rcases Nat.lt_or_ge j (k + 1) with h1 | h1
    · exact ih (by omega) ((fr_front bs l n k).1 hf).1
    · obtain rfl : j = k + 1 := by omega
      exact hf
/-- A list that Pack takes stands at the front. -/
def Is (bs : List Bool) (m : List Int) : Prop := m.length ≤ 1000 ∧ I64 m ∧ Fr bs (packT m)
theorem Is.count {bs : List Bool} {m : List Int} (h : Is bs m) : 16 ≤ bs.length ∧ val (bs.take 16) = m.length := by
  obtain ⟨h1, h2, h3⟩ := h
  have h4 := fr_mono bs m m.length 0 m.length (by omega) h3
  rw [front_zero] at h4
  have hl := h4.len
  rw [ofVal_len] at hl
  unfold Fr at h4
  rw [ofVal_len] at h4
  exact ⟨hl, by rw [h4, val_ofVal _ _ (by omega)]⟩
theorem take_app {m acc : List Int} {j : Nat} (h : m.take j = acc) : m = acc ++ m.drop j := by rw [← h, List.take_append_drop]
theorem getD_app (acc r : List Int) (i : Nat) (h : i < acc.length) : (acc ++ r).getD i 0 = acc.getD i 0 := by
  rw [List.getD_eq_getElem?_getD, List.getD_eq_getElem?_getD, List.getElem?_append_left h]
theorem lst_app (acc r : List Int) : lst (acc ++ r) acc.length = lst acc acc.length := by
  unfold lst; split
  · rfl
  · exact getD_app acc r _ (by omega)
theorem stp_app (acc r : List Int) : stp (acc ++ r) acc.length = stp acc acc.length := by
  unfold stp; split
  · rfl
  · rw [getD_app acc r _ (by omega), getD_app acc r _ (by omega)]
theorem Is.at {bs : List Bool} {m acc : List Int} (h : Is bs m) (ha : m.take acc.length = acc) (hl : acc.length < m.length) : Fr (bs.drop (front acc m.length acc.length).length) (tb m acc.length) := by
  have h4 := fr_mono bs m m.length (acc.length + 1) m.length (by omega) h.2.2
  rw [fr_front] at h4
  have e : front m m.length acc.length = front acc m.length acc.length := by
    have := front_app acc (m.drop acc.length) m.length acc.length (Nat.le_refl _)
    rw [← take_app ha] at this
    exact this
  rw [e] at h4
  exact h4.2
theorem u64_wrap64 (f : Nat) (h : f < 18446744073709551616) : u64 (wrap64 f) = f := by unfold u64 wrap64; omega
theorem wrap64_u64 (x : Int) (h0 : -9223372036854775808 ≤ x) (h1 : x ≤ 9223372036854775807) : wrap64 (u64 x) = x := by unfold u64 wrap64; omega
theorem tb_zero (l : List Int) : tb l 0 = ofVal (u64 (l.getD 0 0)) 64 := by unfold tb; rw [if_pos rfl]
theorem getD_one (y : Int) : ([] ++ [y]).getD 0 0 = y := rfl
theorem first_sound (X : List Bool) (h : 64 ≤ X.length) : Fr X (tb ([] ++ [wrap64 (val (X.take 64) : Nat)]) 0) := by
  have hl : (X.take 64).length = 64 := by rw [List.length_take]; omega
  have hv := val_lt (X.take 64)
  rw [hl] at hv
  have hv : val (X.take 64) < 18446744073709551616 := by omega
  rw [tb_zero, getD_one, u64_wrap64 _ hv, ofVal_of _ _ hl]
  unfold Fr; rw [hl]
theorem first_full (X : List Bool) (m : List Int) (hi : I64 m) (h : Fr X (tb m 0)) : 64 ≤ X.length ∧ m.getD 0 0 = wrap64 (val (X.take 64) : Nat) := by
  rw [tb_zero] at h
  have hl := h.len
  rw [ofVal_len] at hl
  unfold Fr at h
  rw [ofVal_len] at h
  have hb := hi.at 0
  exact ⟨hl, by rw [h, val_ofVal _ _ (by have := u64_lt (m.getD 0 0); omega), wrap64_u64 _ hb.1 hb.2]⟩
/-- The number behind acc, its change being c. -/
def nxt (acc : List Int) (c : Int) : Int := wrap64 (lst acc acc.length + wrap64 (stp acc acc.length + c))
theorem getD_new (acc : List Int) (y : Int) : (acc ++ [y]).getD acc.length 0 = y := by
  rw [List.getD_eq_getElem?_getD, List.getElem?_append_right (Nat.le_refl _)]; simp
theorem getD_pred (acc r : List Int) (h : 0 < acc.length) : (acc ++ r).getD (acc.length - 1) 0 = lst acc acc.length := by
  unfold lst; rw [if_neg (by omega), getD_app acc r _ (by omega)]
theorem tb_next (acc : List Int) (c : Int) (h0 : -9223372036854775808 ≤ c) (h1 : c ≤ 9223372036854775807) (hp : 0 < acc.length) : tb (acc ++ [nxt acc c]) acc.length = chg c := by
  unfold tb
  rw [if_neg (by omega)]
  unfold cg
  rw [getD_new, getD_pred acc _ hp, stp_app]
  unfold nxt
  congr 1
  unfold wrap64; omega
theorem lst_new (acc : List Int) (y : Int) : lst (acc ++ [y]) (acc.length + 1) = y := by
  unfold lst; rw [if_neg (by omega), Nat.add_sub_cancel, getD_new]
theorem stp_new (acc : List Int) (c : Int) (hp : 0 < acc.length) : stp (acc ++ [nxt acc c]) (acc.length + 1) = wrap64 (stp acc acc.length + c) := by
  have e : stp (acc ++ [nxt acc c]) (acc.length + 1) = wrap64 ((acc ++ [nxt acc c]).getD acc.length 0 - (acc ++ [nxt acc c]).getD (acc.length - 1) 0) := by
    unfold stp; rw [if_neg (by omega)]; congr 2
  rw [e, getD_new, getD_pred acc _ hp]
  unfold nxt wrap64; omega
theorem next_full (m acc : List Int) (hi : I64 m) (ha : m.take acc.length = acc) (hp : 0 < acc.length) (c : Int) (h0 : -9223372036854775808 ≤ c) (h1 : c ≤ 9223372036854775807) (X : List Bool) (hf : Fr X (chg c)) (hm : Fr X (tb m acc.length)) : m.getD acc.length 0 = nxt acc c := by
  unfold tb at hm
  rw [if_neg (by omega)] at hm
  have e := chg_one X c (cg m acc.length) h0 h1 (wrap64_lo _) (wrap64_hi _) hf hm
  have e1 : m.getD (acc.length - 1) 0 = lst acc acc.length := by
    have := getD_pred acc (m.drop acc.length) hp
    rw [← take_app ha] at this
    exact this
  have e2 : stp m acc.length = stp acc acc.length := by
    have := stp_app acc (m.drop acc.length)
    rw [← take_app ha] at this
    exact this
  have hb := hi.at acc.length
  unfold cg at e
  rw [e1, e2] at e
  unfold nxt
  rw [e]
  generalize m.getD acc.length 0 = x at hb
  unfold wrap64; omega
theorem take_next (m acc : List Int) (ha : m.take acc.length = acc) (hl : acc.length < m.length) : m.take (acc.length + 1) = acc ++ [m.getD acc.length 0] := by
  rw [List.take_succ_eq_append_getElem hl, ha]
  simp [List.getD_eq_getElem?_getD, hl]
theorem i64_snoc {acc : List Int} {y : Int} (h : I64 acc) (h0 : -9223372036854775808 ≤ y) (h1 : y ≤ 9223372036854775807) : I64 (acc ++ [y]) := by
  intro x hx
  rcases List.mem_append.1 hx with h2 | h2
  · exact h x h2
  · simp at h2; subst h2; exact ⟨h0, h1⟩
/-- One step: a number more is read. -/
theorem read_step (bs : List Bool) (acc : List Int) (n : Nat) (y : Int) (hf : Fr bs (front acc n acc.length)) (ht : Fr (bs.drop (front acc n acc.length).length) (tb (acc ++ [y]) acc.length)) : Fr bs (front (acc ++ [y]) n (acc.length + 1)) ∧ (front (acc ++ [y]) n (acc.length + 1)).length = (front acc n acc.length).length + (tb (acc ++ [y]) acc.length).length := by
  have e := front_app acc [y] n acc.length (Nat.le_refl _)
  refine ⟨(fr_front bs _ n _).2 ⟨by rw [e]; exact hf, by rw [e]; exact ht⟩, ?_⟩
  rw [front_succ, e, List.length_append]
end P
end D
end Go.Proofs.YtfjbdgkdkbcnhaaDoor
/- What delta.push and delta.pushChange answer. -/
namespace Go.Proofs.YtfjbdgkdkbcnhaaDoor
open P
namespace D
open Go.RowKit
set_option linter.unusedVariables false

theorem box_ret {w3 : World} {b : Nat} {x y d0 d1 : Value} (o : Obj) (hd0 : w3.cell? ⟨b, 0, none⟩ = some d0) (hd1 : w3.cell? ⟨b, 1, none⟩ = some d1) :
    (((w3.setCell ⟨b, 0, none⟩ x).setCell ⟨b, 1, none⟩ y).alloc o).cell? ⟨b, 0, none⟩ = some x ∧ (((w3.setCell ⟨b, 0, none⟩ x).setCell ⟨b, 1, none⟩ y).alloc o).cell? ⟨b, 1, none⟩ = some y :=
  ⟨keep_alloc ((World.cell?_setCell_other _ _ _ _ (by simp)).trans (World.cell?_setCell_same _ _ _ hd0)) o, keep_alloc (World.cell?_setCell_same _ _ _ ((World.cell?_setCell_other _ _ _ _ (by simp)).trans hd1)) o⟩
theorem dpush_ok (v : Value) (bs : List Bool) (u m : Nat) (w : World) (hr : RowB w v (P.pack bs)) (h1 : m ≤ 64) (u1 : (u : Int) ≤ 18446744073709551615) (hf : u < 2 ^ m) (hl : bs.length + m ≤ 80000) :
    Calls Tryd.prog 37 #[.agg #[v, .int .i64 bs.length], .int .u64 u, .int .i64 m] w fun e w' =>
      ∃ vy, e = .returned (.agg #[vy, .int .i64 ((bs.length + m : Nat) : Int)]) ∧ OwnB w' w.heap.size vy (P.pack (bs ++ P.ofVal u m)) ∧ Below w.heap.size w w' := by
  have HP := hide (fun (w : World) (hr : RowB w v (P.pack bs)) => push_ok v bs u m w hr h1 u1 hf hl)
  go_enter Tryd.func37, Tryd.ntmps37
  go_wp2_with (go_at_call 55; go_must (refine (HP.out _ (row_two hr _ _)).mono ?_); rintro e w3 ⟨vy, rfl, hown, hb2⟩; have hs3 := hb2.size; obtain ⟨ay, capy, hvy⟩ := hown.shp; rw [hvy] at hown ⊢; clear hvy; obtain ⟨hc0, hc1, hd0, hd1, hf0, hf1, hb, hsz⟩ := box4 hb2; clear hb2)
  generalize P.pack (bs ++ P.ofVal u m) = L at hown ⊢
  have q := fun x y o => box_ret (x := x) (y := y) o hd0 hd1
  refine bodyPost_ret (v := .agg #[.slice ay L.length capy, .int .i64 ((bs.length + m : Nat) : Int)]) (by simp [results, Tryd.results37, go_sem, q]) rfl ⟨_, rfl, ?_, ?_⟩
  · exact World.ownsRow.alloc (OwnB.base (ownsRow_setCell_below (ownsRow_setCell_below hown (by simp) _) (by simp) _) (by simp; omega)) _
  · exact below_alloc ((hb.setCell (by simp) _).setCell (by simp) _) _

theorem hv_lt (k : Nat) : P.hv k < 2 ^ P.hb k := by
  unfold P.hv P.hb; (repeat' split) <;> omega
/-- A change's lowest bits, as the code takes them. -/
def lowB (c : Int) (d : Nat) : Int := bits BinOp.and IntKind.u64 (IntKind.u64.wrap c) (IntKind.u64.wrap (IntKind.u64.wrap (2 ^ d) - 1))
theorem low_bits (c : Int) (d : Nat) (h : d ≤ 64) : lowB c d = ((P.u64 c % 2 ^ d : Nat) : Int) := by
  unfold lowB
  rw [IntKind.wrap_u64, IntKind.wrap_u64, IntKind.wrap_u64]
  have e : ((2 : Int) ^ d % 18446744073709551616 - 1) % 18446744073709551616 = 2 ^ d - 1 := by
    rcases Nat.lt_or_ge d 64 with h' | h'
    · have h1 : (2 : Nat) ^ d ≤ 2 ^ 63 := Nat.pow_le_pow_right (by decide) (by omega)
      have h2 : 0 < (2 : Nat) ^ d := Nat.pow_pos (by decide)
      have h3 : ((2 : Int) ^ d) = ((2 ^ d : Nat) : Int) := by simp
      rw [h3]
      generalize (2 : Nat) ^ d = x at h1 h2
      omega
    · obtain rfl : d = 64 := by omega
      decide
  rw [e, bits_mask .u64 64 (by decide) (fun n a b => by rw [IntKind.wrap_u64]; omega) d h _ (by omega) (by omega)]
  unfold P.u64
  have h4 : 0 ≤ c % 18446744073709551616 := by omega
  generalize c % 18446744073709551616 = q at h4
  obtain ⟨m, rfl⟩ := Int.eq_ofNat_of_zero_le h4
  simp
set_option maxHeartbeats 1000000 in
theorem pushChange_ok (v : Value) (bs : List Bool) (c : Int) (w : World) (hr : RowB w v (P.pack bs)) (h0 : -9223372036854775808 ≤ c) (h1 : c ≤ 9223372036854775807) (hl : bs.length + 68 ≤ 80000) (hs : Shp w) :
    Calls Tryd.prog 38 #[.agg #[v, .int .i64 bs.length], .int .i64 c] w fun e w' =>
      ∃ vy, e = .returned (.agg #[vy, .int .i64 ((bs ++ P.chg c).length : Nat)]) ∧ OwnB w' w.heap.size vy (P.pack (bs ++ P.chg c)) ∧ Below w.heap.size w w' := by
  have hsh := hide (fun (w : World) (hs : Shp w) => shapeOf_any c w h0 h1 hs)
  have hlt := hv_lt (P.cls c)
  have hb4 := P.hb_le (P.cls c)
  have hd4 := P.wd_le (P.cls c)
  unfold P.chg P.chgK
  unfold shapeV at hsh
  generalize P.hv (P.cls c) = a at hsh hlt ⊢
  generalize P.hb (P.cls c) = b at hsh hlt hb4 ⊢
  generalize P.wd (P.cls c) = d at hsh hd4 ⊢
  have hp4 : (2 : Nat) ^ b ≤ 2 ^ 4 := Nat.pow_le_pow_right (by decide) hb4
  have hpd : (2 : Nat) ^ d ≤ 2 ^ 64 := Nat.pow_le_pow_right (by decide) hd4
  have hum : P.u64 c % 2 ^ d < 2 ^ d := Nat.mod_lt _ (Nat.pow_pos (by decide))
  have HP1 : Hid (∀ w : World, RowB w v (P.pack bs) → Calls Tryd.prog 37 #[.agg #[v, .int .i64 bs.length], .int .u64 a, .int .i64 b] w fun e w' =>
      ∃ vy, e = .returned (.agg #[vy, .int .i64 ((bs.length : Int) + (b : Int))]) ∧ OwnB w' w.heap.size vy (P.pack (bs ++ P.ofVal a b)) ∧ Below w.heap.size w w') := by
    intro w hr
    have h := dpush_ok v bs a b w hr (by omega) (by omega) hlt (by omega)
    rw [Int.natCast_add] at h
    exact h
  have HP2 : Hid (∀ (vy : Value) (w : World), RowB w vy (P.pack (bs ++ P.ofVal a b)) → Calls Tryd.prog 37 #[.agg #[vy, .int .i64 ((bs.length : Int) + (b : Int))], .int .u64 (bits BinOp.and IntKind.u64 (IntKind.u64.wrap c) (IntKind.u64.wrap (IntKind.u64.wrap (2 ^ d) - 1))), .int .i64 d] w fun e w' =>
      ∃ vz, e = .returned (.agg #[vz, .int .i64 ((bs ++ (P.ofVal a b ++ P.ofVal (P.u64 c % 2 ^ d) d)).length : Nat)]) ∧ OwnB w' w.heap.size vz (P.pack (bs ++ (P.ofVal a b ++ P.ofVal (P.u64 c % 2 ^ d) d))) ∧ Below w.heap.size w w') := by
    intro vy w hr
    have hl1 : (bs ++ P.ofVal a b).length = bs.length + b := by rw [List.length_append, P.ofVal_len]
    have h := dpush_ok vy (bs ++ P.ofVal a b) (P.u64 c % 2 ^ d) d w hr hd4 (by omega) hum (by omega)
    rw [← low_bits c d hd4, hl1, Int.natCast_add, List.append_assoc] at h
    have e : (bs ++ (P.ofVal a b ++ P.ofVal (P.u64 c % 2 ^ d) d)).length = bs.length + b + d := by simp [P.ofVal_len]; omega
    rw [e]
    exact h
  generalize bs ++ (P.ofVal a b ++ P.ofVal (P.u64 c % 2 ^ d) d) = zs at HP2 ⊢
  clear hum hpd hp4 hlt
  go_enter Tryd.func38, Tryd.ntmps38
  go_wp2_with (go_at_call 56; go_must (refine (hsh.out _ (hs.next (((Below.refl _ _).alloc (Nat.le_refl _) _).alloc (by simp) _))).mono ?_); rintro e w3 ⟨rfl, hb2⟩; have hs3 := hb2.size; obtain ⟨hc0, hc1, hd0, hd1, hf0, hf1, hb, hsz⟩ := box4 hb2; clear hb2)
  generalize hW4 : w3.alloc (.cells #[.int .u64 a, .int .i64 b, .int .i64 d] 95) = W4
  have x0 : W4.cell? ⟨w.heap.size, 0, none⟩ = some v := by rw [← hW4]; exact keep_alloc hc0 _
  have x1 : W4.cell? ⟨w.heap.size, 1, none⟩ = some (.int .i64 bs.length) := by rw [← hW4]; exact keep_alloc hc1 _
  have y0 : W4.cell? ⟨w3.heap.size, 0, none⟩ = some (.int .u64 a) := by rw [← hW4]; simp
  have y1 : W4.cell? ⟨w3.heap.size, 1, none⟩ = some (.int .i64 b) := by rw [← hW4]; simp
  have y2 : W4.cell? ⟨w3.heap.size, 2, none⟩ = some (.int .i64 d) := by rw [← hW4]; simp
  have z0 : W4.cell? ⟨w.heap.size + 1, 0, none⟩ = some (.slice none 0 0) := by rw [← hW4]; exact keep_alloc hd0 _
  have z1 : W4.cell? ⟨w.heap.size + 1, 1, none⟩ = some (.int .i64 0) := by rw [← hW4]; exact keep_alloc hd1 _
  have hbA : Below w3.heap.size w3 W4 := by rw [← hW4]; exact (Below.refl _ _).alloc (Nat.le_refl _) _
  have g0 : W4.frozen? ⟨w.heap.size + 1, 0, none⟩ = false := (hbA.frozen (p := ⟨w.heap.size + 1, 0, none⟩) hsz).trans hf0
  have g1 : W4.frozen? ⟨w.heap.size + 1, 1, none⟩ = false := (hbA.frozen (p := ⟨w.heap.size + 1, 1, none⟩) hsz).trans hf1
  have hbW : Below w.heap.size w W4 := hb.trans (hbA.mono (by omega))
  have hne : w3.heap.size ≠ w.heap.size + 1 := by omega
  have hsW : w.heap.size + 1 < W4.heap.size := by have := hbA.size; omega
  clear hW4 hc0 hc1 hd0 hd1 hf0 hf1 hbA hs3 hsz hb
  go_region_held3 (fun wx => wx.cell? ⟨w.heap.size, 0, none⟩ = some v ∧ wx.cell? ⟨w.heap.size, 1, none⟩ = some (.int .i64 bs.length) ∧ wx.cell? ⟨w3.heap.size, 0, none⟩ = some (.int .u64 a) ∧ wx.cell? ⟨w3.heap.size, 1, none⟩ = some (.int .i64 b) ∧ wx.cell? ⟨w3.heap.size, 2, none⟩ = some (.int .i64 d)) (first | (refine ⟨?_, ?_, ?_, ?_, ?_⟩ <;> with_reducible assumption) | (rw [show World.cell? W4.drew = World.cell? W4 from rfl]; exact ⟨x0, x1, y0, y1, y2⟩) | (refine ⟨?_, ?_, ?_, ?_, ?_⟩ <;> (refine (World.cell?_setCell_other _ _ _ _ (by first | simp | simp [hne] | simp [hne.symm])).trans ((World.cell?_setCell_other _ _ _ _ (by first | simp | simp [hne] | simp [hne.symm])).trans ?_) <;> with_reducible assumption))) (first
    | (go_at_call 37; refine (HP2.out _ _ hown.row).mono ?_; rintro e w6 ⟨vz, rfl, hown6, hb7⟩; obtain ⟨az, capz, hvz⟩ := hown6.shp; rw [hvz] at hown6 ⊢; clear hvz; have hb8 := Below.next hb6 hb7; have x0'' := keep_cell x0' hb7; have x1'' := keep_cell x1' hb7; have y0'' := keep_cell y0' hb7; have y1'' := keep_cell y1' hb7; have y2'' := keep_cell y2' hb7; have z0'' := keep_cell z0' hb7; have z1'' := keep_cell z1' hb7; have g0'' := (hb7.frozen (p := ⟨w.heap.size + 1, 0, none⟩) (World.block_lt_of_cell? _ _ z0')).trans g0'; have g1'' := (hb7.frozen (p := ⟨w.heap.size + 1, 1, none⟩) (World.block_lt_of_cell? _ _ z1')).trans g1')
    | (go_at_call 37; refine (HP1.out _ (hr.below hbW.drew (Nat.le_refl _))).mono ?_; rintro e w5 ⟨vy, rfl, hown, hb5⟩; obtain ⟨ay, capy, hvy⟩ := hown.shp; rw [hvy] at hown ⊢; clear hvy; have hb6 := Below.next (w1 := W4.drew) hbW.drew hb5; have x0' := keep_cell (w := W4.drew) x0 hb5; have x1' := keep_cell (w := W4.drew) x1 hb5; have y0' := keep_cell (w := W4.drew) y0 hb5; have y1' := keep_cell (w := W4.drew) y1 hb5; have y2' := keep_cell (w := W4.drew) y2 hb5; have z0' := keep_cell (w := W4.drew) z0 hb5; have z1' := keep_cell (w := W4.drew) z1 hb5; have g0' := (hb5.frozen (p := ⟨w.heap.size + 1, 0, none⟩) hsW).trans g0; have g1' := (hb5.frozen (p := ⟨w.heap.size + 1, 1, none⟩) hsW).trans g1; have hs5 := hb5.size; clear hb5))
  go_wp2
  refine bodyPost_ret (v := .agg #[.slice az (P.pack zs).length capz, .int .i64 (zs.length : Nat)]) (by simp [results, Tryd.results38, go_sem, z0'', z1'']) rfl ⟨_, rfl, ?_, (hb8.setCell (by simp) _).setCell (by simp) _⟩
  have hz := World.block_lt_of_cell? _ _ z1'
  simp at hz
  exact OwnB.base (ownsRow_setCell_below (ownsRow_setCell_below hown6 (by simp; omega) _) (by simp; omega) _) (by omega)
end D
end Go.Proofs.YtfjbdgkdkbcnhaaDoor
/- What delta.Pack answers. -/
namespace Go.Proofs.YtfjbdgkdkbcnhaaDoor
open P
namespace D
open Go.RowKit
set_option linter.unusedVariables false

theorem u64_wrap (x : Int) : ((P.u64 x : Nat) : Int) = IntKind.u64.wrap x := by
  rw [IntKind.wrap_u64]; unfold P.u64; omega
theorem front_one (l : List Int) (n : Nat) : P.front l n 1 = P.front l n 0 ++ P.ofVal (P.u64 (l.getD 0 0)) 64 := by
  rw [P.front_succ]; rfl
theorem front_next (l : List Int) (n j : Nat) (h : 0 < j) : P.front l n (j + 1) = P.front l n j ++ P.chg (wrap64 (wrap64 (l.getD j 0 - P.lst l j) - P.stp l j)) := by
  rw [P.front_succ]
  unfold P.tb P.cg P.lst
  rw [if_neg (by omega), if_neg (by omega)]
theorem lst_next (l : List Int) (j : Nat) : P.lst l (j + 1) = l.getD j 0 := by unfold P.lst; simp
theorem stp_next (l : List Int) (j : Nat) (h : 0 < j) : P.stp l (j + 1) = wrap64 (l.getD j 0 - P.lst l j) := by
  unfold P.stp P.lst
  rw [if_neg (by omega), if_neg (by omega)]
  have e : j + 1 - 2 = j - 1 := by omega
  rw [e]; simp
theorem stp_one (l : List Int) : P.stp l 1 = P.stp l 0 := by unfold P.stp; simp

theorem pack_large (v : Value) (l : List Int) (w : World) (hr : RowK .i64 w v l) (hn : 1000 < l.length) :
    Calls Tryd.prog 18 #[v] w fun e w' => e = .returned (.tuple #[noBits, .int .i64 2]) ∧ Below w.heap.size w w' := by
  obtain ⟨a, cap, rfl, ⟨hlc, hmax, hnn⟩, hcase⟩ := hr
  unfold maxLen at hmax
  clear hcase
  go_enter Tryd.func18, Tryd.ntmps18
  go_wp2
  exact bodyPost_ret (v := .tuple #[noBits, .int .i64 2]) (by simp [results, Tryd.results18, go_sem]) rfl ⟨rfl, (Below.refl _ _).alloc (Nat.le_refl _) _⟩

set_option maxHeartbeats 2000000 in
theorem pack_any (v : Value) (l : List Int) (w : World) (hr : RowK .i64 w v l) (hi : P.I64 l) (hn : l.length ≤ 1000) (hs : Shp w) :
    Calls Tryd.prog 18 #[v] w fun e w' =>
      ∃ vy, e = .returned (.tuple #[.agg #[vy, .int .i64 ((P.packT l).length : Nat)], .int .i64 0]) ∧ OwnB w' w.heap.size vy (P.pack (P.packT l)) ∧ Below w.heap.size w w' := by
  obtain ⟨a, cap, rfl, ⟨hlc, hmax, hnn⟩, hcase⟩ := hr
  unfold maxLen at hmax
  have HF : Hid (P.packT l = P.front l l.length l.length) := rfl
  generalize P.packT l = res at HF ⊢
  have HP0 : Hid (∀ w : World, Calls Tryd.prog 37 #[noBits, .int .u64 l.length, .int .i64 16] w fun e w' =>
      ∃ vy, e = .returned (.agg #[vy, .int .i64 ((P.front l l.length 0).length : Nat)]) ∧ OwnB w' w.heap.size vy (P.pack (P.front l l.length 0)) ∧ Below w.heap.size w w') := by
    intro w
    have h := dpush_ok (.slice none 0 0) [] l.length 16 w ⟨none, 0, rfl, ⟨by simp [P.pack, P.packTo, P.bytesN], by simp, fun _ => rfl⟩, .inl rfl⟩ (by decide) (by omega) (by omega) (by simp)
    rw [P.front_zero, P.ofVal_len]
    exact h
  have HP1 : Hid (∀ (v : Value) (w : World), RowB w v (P.pack (P.front l l.length 0)) → Calls Tryd.prog 37 #[.agg #[v, .int .i64 (P.front l l.length 0).length], .int .u64 (IntKind.u64.wrap (l.getD 0 0)), .int .i64 64] w fun e w' =>
      ∃ vy, e = .returned (.agg #[vy, .int .i64 ((P.front l l.length 1).length : Nat)]) ∧ OwnB w' w.heap.size vy (P.pack (P.front l l.length 1)) ∧ Below w.heap.size w w') := by
    intro v w hr
    have hu := P.u64_lt (l.getD 0 0)
    have hle := P.front_le l l.length 0
    have h := dpush_ok v (P.front l l.length 0) (P.u64 (l.getD 0 0)) 64 w hr (by decide) (by omega) (by simpa using hu) (by omega)
    rw [u64_wrap, ← front_one] at h
    rw [front_one, List.length_append, P.ofVal_len, ← front_one]
    exact h
  have HP2 : Hid (∀ (j : Nat), 0 < j → j < l.length → ∀ (v : Value) (w : World), RowB w v (P.pack (P.front l l.length j)) → Shp w → Calls Tryd.prog 38 #[.agg #[v, .int .i64 (P.front l l.length j).length], .int .i64 (wrap64 (wrap64 (l.getD j 0 - P.lst l j) - P.stp l j))] w fun e w' =>
      ∃ vy, e = .returned (.agg #[vy, .int .i64 ((P.front l l.length (j + 1)).length : Nat)]) ∧ OwnB w' w.heap.size vy (P.pack (P.front l l.length (j + 1))) ∧ Below w.heap.size w w') := by
    intro j hj hjl v w hr hs
    have hle := P.front_le l l.length j
    have h := pushChange_ok v (P.front l l.length j) _ w hr (P.wrap64_lo (wrap64 (l.getD j 0 - P.lst l j) - P.stp l j)) (P.wrap64_hi _) (by omega) hs
    rw [← front_next l l.length j hj] at h
    exact h
  go_enter Tryd.func18, Tryd.ntmps18
  go_wp2_with (go_at_call 37; go_must (refine (HP0.out _).mono ?_); rintro e w3 ⟨vy, rfl, hown, hb2⟩; obtain ⟨ay, capy, hvy⟩ := hown.shp; rw [hvy] at hown ⊢; clear hvy; have hs3 := hb2.size; obtain ⟨hc0, hc1, hb, hsz⟩ := box2 hb2; have hf0 : w3.frozen? ⟨w.heap.size, 0, none⟩ = false := (hb2.frozen (p := ⟨w.heap.size, 0, none⟩) (by simp)).trans (by simp); have hf1 : w3.frozen? ⟨w.heap.size, 1, none⟩ = false := (hb2.frozen (p := ⟨w.heap.size, 1, none⟩) (by simp)).trans (by simp); clear hb2)
  generalize hW4 : World.alloc w3 _ = W4
  have x0 : W4.cell? ⟨w3.heap.size, 0, none⟩ = some (.slice ay (P.pack (P.front l l.length 0)).length capy) := by rw [← hW4]; simp
  have x1 : W4.cell? ⟨w3.heap.size, 1, none⟩ = some (.int .i64 (P.front l l.length 0).length) := by rw [← hW4]; simp
  have xf0 : W4.frozen? ⟨w3.heap.size, 0, none⟩ = false := by rw [← hW4]; simp
  have xf1 : W4.frozen? ⟨w3.heap.size, 1, none⟩ = false := by rw [← hW4]; simp
  have hbA : Below w3.heap.size w3 W4 := by rw [← hW4]; exact (Below.refl _ _).alloc (Nat.le_refl _) _
  have z0 := keep_cell hc0 hbA
  have z1 := keep_cell hc1 hbA
  have g0 := (hbA.frozen (p := ⟨w.heap.size, 0, none⟩) hsz).trans hf0
  have g1 := (hbA.frozen (p := ⟨w.heap.size, 1, none⟩) hsz).trans hf1
  have hbW : Below w.heap.size w W4 := Below.next hb hbA
  have ho4 : OwnB W4 (w.heap.size + 1) (.slice ay (P.pack (P.front l l.length 0)).length capy) (P.pack (P.front l l.length 0)) := OwnB.base (OwnB.below hown hbA (Nat.le_refl _)) (by simp)
  have hlt3 : w3.heap.size < W4.heap.size := by rw [← hW4]; simp
  have hne : w3.heap.size ≠ w.heap.size := by omega
  clear hW4 hc0 hc1 hf0 hf1 hbA hs3 hb hown HP0
  go_loopw [5, 6, 20] (fun la st i wr => ∃ (j : Nat) (ax : Option Addr) (cx : Nat), j ≤ l.length ∧ i = .int .i64 j ∧ la = .int .i64 (P.lst l j) ∧ st = .int .i64 (P.stp l j) ∧
      wr.cell? ⟨w3.heap.size, 0, none⟩ = some (.slice ax (P.pack (P.front l l.length j)).length cx) ∧ wr.cell? ⟨w3.heap.size, 1, none⟩ = some (.int .i64 (P.front l l.length j).length) ∧
      OwnB wr (w.heap.size + 1) (.slice ax (P.pack (P.front l l.length j)).length cx) (P.pack (P.front l l.length j)) ∧
      wr.frozen? ⟨w3.heap.size, 0, none⟩ = false ∧ wr.frozen? ⟨w3.heap.size, 1, none⟩ = false ∧ wr.cell? ⟨w.heap.size, 0, none⟩ = some (.slice none 0 0) ∧ wr.cell? ⟨w.heap.size, 1, none⟩ = some (.int .i64 0) ∧
      wr.frozen? ⟨w.heap.size, 0, none⟩ = false ∧ wr.frozen? ⟨w.heap.size, 1, none⟩ = false ∧ Below w.heap.size w wr) (fun _ _ i _ => l.length - (intOf i).toNat)
  case atStart => exact ⟨0, ay, capy, by omega, rfl, rfl, rfl, x0, x1, ho4, xf0, xf1, z0, z1, g0, g1, hbW⟩
  case round =>
    clear x0 x1 ho4 xf0 xf1 z0 z1 g0 g1 hbW hlt3
    obtain ⟨j, ax, cx, hj, rfl, rfl, rfl, x0, x1, ho, xf0, xf1, z0, z1, g0, g1, hb⟩ := hrel
    have hsx := World.block_lt_of_cell? _ _ x0
    simp only at hsx
    by_cases hlt : j < l.length
    · rcases hcase with h0 | ⟨b, off, rfl, hbs, hcell⟩
      · rw [h0] at hlt; simp at hlt
      have hc := (hb.cell (p := ⟨b, off + j, none⟩) hbs).trans (hcell j hlt)
      have j0 : (0 : Int) ≤ (j : Int) := by omega
      have j1 : (j : Int) < (l.length : Int) := by omega
      by_cases hz : j = 0
      · subst hz
        rw [Nat.add_zero] at hc
        have HS := hide (stp_one l)
        have HL := hide (lst_next l 0)
        generalize l.getD 0 0 = t at hc HP1 HL
        generalize P.stp l 0 = st at HS
        generalize P.lst l 0 = la
        generalize hxs : P.front l l.length 0 = xs at x0 x1 ho HP1
        generalize hys : P.front l l.length (0 + 1) = ys at HP1
        have HY := hide hys
        clear hys hxs
        go_wp2_with (go_at_call 37; go_must (refine (HP1.out _ _ ho.row).mono ?_); rintro e w5 ⟨vy, rfl, hown, hb2⟩; obtain ⟨aw, cw, hvy⟩ := hown.shp; rw [hvy] at hown ⊢; clear hvy; have hb5 := Below.next hb hb2; have x0' := keep_cell x0 hb2; have x1' := keep_cell x1 hb2; have z0' := keep_cell z0 hb2; have z1' := keep_cell z1 hb2; have xf0' := (hb2.frozen (p := ⟨w3.heap.size, 0, none⟩) hsx).trans xf0; have xf1' := (hb2.frozen (p := ⟨w3.heap.size, 1, none⟩) hsx).trans xf1; have g0' := (hb2.frozen (p := ⟨w.heap.size, 0, none⟩) (by simp; omega)).trans g0; have g1' := (hb2.frozen (p := ⟨w.heap.size, 1, none⟩) (by simp; omega)).trans g1; clear hb2)
        go_roundw
        case rel =>
          refine ⟨0 + 1, aw, cw, by omega, by go_num, by rw [HL.out], by rw [HS.out], ?_, ?_, ?_, (World.frozen?_setCell _ _ _ _).trans ((World.frozen?_setCell _ _ _ _).trans xf0'), (World.frozen?_setCell _ _ _ _).trans ((World.frozen?_setCell _ _ _ _).trans xf1'),
            (World.cell?_setCell_other _ _ _ _ (by first | simp | simp [hne])).trans ((World.cell?_setCell_other _ _ _ _ (by first | simp | simp [hne])).trans z0'), (World.cell?_setCell_other _ _ _ _ (by first | simp | simp [hne])).trans ((World.cell?_setCell_other _ _ _ _ (by first | simp | simp [hne])).trans z1'),
            (World.frozen?_setCell _ _ _ _).trans ((World.frozen?_setCell _ _ _ _).trans g0'), (World.frozen?_setCell _ _ _ _).trans ((World.frozen?_setCell _ _ _ _).trans g1'), (hb5.setCell (by simp; omega) _).setCell (by simp; omega) _⟩
          · rw [HY.out]; exact (World.cell?_setCell_other _ _ _ _ (by simp)).trans (World.cell?_setCell_same _ _ _ x0')
          · rw [HY.out]; exact World.cell?_setCell_same _ _ _ ((World.cell?_setCell_other _ _ _ _ (by simp)).trans x1')
          · rw [HY.out]; exact OwnB.base (ownsRow_setCell_below (ownsRow_setCell_below hown (by simp; omega) _) (by simp; omega) _) (by omega)
        case measure => simp [intOf]; omega
      · have hjp : 0 < j := by omega
        have hjz : ((j : Int) == 0) = false := by simp; omega
        have HS := hide (stp_next l j hjp)
        have HL := hide (lst_next l j)
        have HC := hide (HP2.out j hjp hlt)
        have hsh : Shp wr := hs.next hb
        generalize l.getD j 0 = t at hc HC HL HS
        generalize P.stp l j = st at HC
        generalize P.lst l j = la at HC HS
        generalize P.front l l.length j = xs at x0 x1 ho HC
        generalize hys : P.front l l.length (j + 1) = ys at HC
        have HY := hide hys
        clear hys hz HP2 HP1
        go_wp2_with (go_at_call 38; go_must (refine (HC.out _ _ ho.row hsh).mono ?_); rintro e w5 ⟨vy, rfl, hown, hb2⟩; obtain ⟨aw, cw, hvy⟩ := hown.shp; rw [hvy] at hown ⊢; clear hvy; have hb5 := Below.next hb hb2; have x0' := keep_cell x0 hb2; have x1' := keep_cell x1 hb2; have z0' := keep_cell z0 hb2; have z1' := keep_cell z1 hb2; have xf0' := (hb2.frozen (p := ⟨w3.heap.size, 0, none⟩) hsx).trans xf0; have xf1' := (hb2.frozen (p := ⟨w3.heap.size, 1, none⟩) hsx).trans xf1; have g0' := (hb2.frozen (p := ⟨w.heap.size, 0, none⟩) (by simp; omega)).trans g0; have g1' := (hb2.frozen (p := ⟨w.heap.size, 1, none⟩) (by simp; omega)).trans g1; clear hb2)
        go_roundw
        case rel =>
          refine ⟨j + 1, aw, cw, by omega, by go_num, by rw [HL.out], by rw [HS.out], ?_, ?_, ?_, (World.frozen?_setCell _ _ _ _).trans ((World.frozen?_setCell _ _ _ _).trans xf0'), (World.frozen?_setCell _ _ _ _).trans ((World.frozen?_setCell _ _ _ _).trans xf1'),
            (World.cell?_setCell_other _ _ _ _ (by first | simp | simp [hne])).trans ((World.cell?_setCell_other _ _ _ _ (by first | simp | simp [hne])).trans z0'), (World.cell?_setCell_other _ _ _ _ (by first | simp | simp [hne])).trans ((World.cell?_setCell_other _ _ _ _ (by first | simp | simp [hne])).trans z1'),
            (World.frozen?_setCell _ _ _ _).trans ((World.frozen?_setCell _ _ _ _).trans g0'), (World.frozen?_setCell _ _ _ _).trans ((World.frozen?_setCell _ _ _ _).trans g1'), (hb5.setCell (by simp; omega) _).setCell (by simp; omega) _⟩
          · rw [HY.out]; exact (World.cell?_setCell_other _ _ _ _ (by simp)).trans (World.cell?_setCell_same _ _ _ x0')
          · rw [HY.out]; exact World.cell?_setCell_same _ _ _ ((World.cell?_setCell_other _ _ _ _ (by simp)).trans x1')
          · rw [HY.out]; exact OwnB.base (ownsRow_setCell_below (ownsRow_setCell_below hown (by simp; omega) _) (by simp; omega) _) (by omega)
        case measure => simp [intOf]; omega
    · obtain rfl : j = l.length := by omega
      have hd : decide ((l.length : Int) < (l.length : Int)) = false := by simp
      rw [← HF.out] at x0 x1 ho
      go_wp2
      refine bodyPost_ret (v := .tuple #[.agg #[.slice ax (P.pack res).length cx, .int .i64 (res.length : Nat)], .int .i64 0]) (by simp [results, Tryd.results18, go_sem, z0, z1]) rfl ⟨_, rfl, ?_, (hb.setCell (by simp) _).setCell (by simp) _⟩
      exact OwnB.base (ownsRow_setCell_below (ownsRow_setCell_below ho (by simp) _) (by simp) _) (by omega)
end D
end Go.Proofs.YtfjbdgkdkbcnhaaDoor
