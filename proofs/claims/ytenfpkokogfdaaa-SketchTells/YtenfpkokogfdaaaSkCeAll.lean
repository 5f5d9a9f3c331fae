/- Several texts in one. -/
import Derived.Test.YtenfpkokogfdaaaKitSkAll
import Derived.Test.YtenfpkokogfdaaaHofAll
import Derived.Maps.AppendAt
import Derived.Laws.IdiomStrings
/- What cells answers: where a key is counted. -/
namespace Go.Proofs.Ytenfpkokogfdaaa
open Go.RowKit
set_option linter.unusedVariables false
namespace P
/-- The bytes of a key. -/
def key (x : ByteArray) : List Int := x.data.toList.map fun c => (c.toNat : Int)
/-- A key's cell of row number i. -/
def hc (w i : Nat) (x : ByteArray) : Nat := hof i (key x) % w
/-- Its places in all cells, of the first k rows. -/
def plc (w : Nat) (x : ByteArray) (k : Nat) : List Int := (List.range k).map fun i => ((i * w + hc w i x : Nat) : Int)
theorem plc_len (w : Nat) (x : ByteArray) (k : Nat) : (plc w x k).length = k := by simp [plc]
theorem plc_succ (w : Nat) (x : ByteArray) (k : Nat) : plc w x (k + 1) = plc w x k ++ [((k * w + hc w k x : Nat) : Int)] := by simp [plc, List.range_succ]
theorem hc_lt {w : Nat} (h : 0 < w) (i : Nat) (x : ByteArray) : hc w i x < w := Nat.mod_lt _ h
end P
theorem byt_key (x : ByteArray) : Byt (P.key x) := fun y hy => by
  obtain ⟨c, _, rfl⟩ := List.mem_map.1 hy
  have := c.toNat_lt
  omega
theorem key_len (x : ByteArray) : (P.key x).length = x.size := by unfold P.key; rw [List.length_map]; rfl
theorem Try.info3 : (Try.prog.info? 3).map (fun i => (i.zero, i.size, i.bytes)) = some (some (.int .i64 0), 1, 8) := by kernel_rfl
/-- Numbers of places that the call itself made. -/
abbrev OwnN (w : World) (base : Nat) (v : Value) (l : List Int) : Prop := OwnK 3 .i64 w base v l
theorem step_appN {ops : Array Oper} {o : Oper} {a : Act} {K : Act → World → Prop} {Q : Exit → Act → World → Prop} {E : Prop} (hgd : o.guard = none) (s x : Operand)
    (ho : o.op = .call { callee := .builtin .append, args := #[s, x], argTypes := #[49, 49] })
    (B base : Nat) (w0 w : World) (v : Value) (acc : List Int) (y : Int) (hown : OwnN w base v acc) (hb : Below B w0 w) (hB : B ≤ base) (hs : a.eval s = v)
    (hx : a.eval x = .slice (some ⟨w.heap.size, 0, none⟩) 1 1) (hlen : (acc.length + 1) * 8 ≤ 140737488355328) (hbase : base ≤ w.heap.size)
    (h : ∀ v' w', OwnN w' base v' (acc ++ [y]) → Below B w0 w' → w.heap.size < w'.heap.size → w.grownBy w' v.ownBlock → K (a.put o.dst v') w') :
    if Region.wanted o (yielded ops a.tmps) = true then Oper.wp Try.prog o a (w.alloc (.cells #[.int .i64 y] 3)) K Q else E := by
  have hw : Region.wanted o (yielded ops a.tmps) = true := by simp [Region.wanted, hgd]
  rw [if_pos hw]
  obtain ⟨i0, hi, hz0, hz1, hz2⟩ := info_parts Try.info3
  refine wp_append_own _ s x 49 ho base 3 i0 (.int .i64 0) 1 8 Try.underlying49 hi hz0 hz1 hz2 rfl (by decide) v _ _ hs (hown.alloc _) ⟨w.heap.size, 0, none⟩ 1 1 [.int .i64 y] hx rfl ?_ ?_ ?_ ?_ ?_ ?_
  · intro j u hj
    match j, hj with
    | 0, hj => simp at hj; subst hj; simp [Addr.add]
  · intro u hu; simp at hu; subst hu; rfl
  · unfold maxLen; omega
  · omega
  · simp; omega
  · intro v' w' ho' hg _
    refine h v' w' ?_ ((hb.alloc (by omega) _).grown hg (by simp; omega) ?_) ?_ ((World.grownBy_alloc w _ _).trans hg)
    · have e1 : (acc ++ [y]).length = acc.length + 1 := by simp
      have e2 : (acc ++ [y]).map (Value.int .i64) = acc.map (Value.int .i64) ++ [.int .i64 y] := by simp
      show w'.ownsRow base 3 1 v' (acc ++ [y]).length ((acc ++ [y]).map (Value.int .i64))
      rw [e1, e2]; exact ho'
    · intro k hk; have := (hown.lt k hk).1; omega
    · have := hg.size; simp at this; omega
theorem step_appNd {ops : Array Oper} {o : Oper} {a : Act} {K : Act → World → Prop} {Q : Exit → Act → World → Prop} {E : Prop} (hgd : o.guard = none) (s x : Operand)
    (ho : o.op = .call { callee := .builtin .append, args := #[s, x], argTypes := #[49, 49] })
    (B base : Nat) (w0 w : World) (v : Value) (acc : List Int) (y : Int) (hown : OwnN w base v acc) (hb : Below B w0 w) (hB : B ≤ base) (hs : a.eval s = v)
    (hx : a.eval x = .slice (some ⟨w.heap.size, 0, none⟩) 1 1) (hlen : (acc.length + 1) * 8 ≤ 140737488355328) (hbase : base ≤ w.heap.size)
    (h : ∀ v' w', OwnN w' base v' (acc ++ [y]) → Below B w0 w' → w.heap.size < w'.heap.size → w.grownBy w' v.ownBlock → K (a.put o.dst v') w') :
    if Region.wanted o (yielded ops a.tmps) = true then Oper.wp Try.prog o a (w.alloc (.cells #[.int .i64 y] 3)).drew K Q else E :=
  step_appN (ops := ops) hgd s x ho B base w0 w.drew v acc y hown hb.drew hB hs hx hlen hbase fun v' w' a1 a2 a3 a4 => h v' w' a1 a2 a3 ⟨a4.os, a4.tape, a4.output, a4.size, a4.block⟩
/-- The bytes of a text, in a new row. -/
theorem conv_key (q : ByteArray) (w : World) (hq : q.size ≤ 9223372036854775807) :
    ∃ v w', (convert 9 58 (.string q)).run Try.prog w = .ok v w' ∧ RowB w' v (P.key q) ∧ Below w.heap.size w w' := by
  have hr := run_bytes_of_string (P := Try.prog) w 9 58 5 q Try.underlying9 Try.underlying58 Try.underlying5
  have hge := grownCap_ge w q.size 0 5
  have hle := grownCap_le_maxLen w q.size 0 5 (by unfold maxLen; omega)
  have hb : ∀ o, Below w.heap.size w (w.drew.alloc o) := fun o => (below_dr (Below.refl w.heap.size w)).alloc (Nat.le_refl _) _
  refine ⟨_, _, hr, ?_, hb _⟩
  have hn := heap_alloc_new w.drew (.cells (bytesRow q (grownCap w q.size 0 5)) 5 ((bytesRow q (grownCap w q.size 0 5)).size, (bytesRow q (grownCap w q.size 0 5)).size + 1))
  refine ⟨_, grownCap w q.size 0 5, by rw [key_len], ⟨by rw [key_len]; exact hge, hle, fun h => by cases h⟩, .inr ⟨w.heap.size, 0, rfl, ?_, fun j hj => ?_⟩⟩
  · exact (Array.getElem?_eq_some_iff.1 hn).1
  · rw [key_len] at hj
    have hn' : (w.drew.alloc (.cells (bytesRow q (grownCap w q.size 0 5)) 5 ((bytesRow q (grownCap w q.size 0 5)).size, (bytesRow q (grownCap w q.size 0 5)).size + 1))).heap[w.heap.size]? = _ := hn
    unfold World.cell?
    simp only [hn', Nat.zero_add]
    have hj' : j < q.data.size := hj
    unfold bytesRow P.key
    simp [Array.getElem?_append, List.getD_eq_getElem?_getD]
    rw [if_pos hj, Array.getElem?_eq_getElem hj']
    rfl
set_option maxRecDepth 100000 in
set_option maxHeartbeats 2000000 in
theorem cells_any (cv : Value) (d x : Nat) (n : Int) (q : ByteArray) (w : World) (hd : d ≤ 8) (hx1 : 1 ≤ x) (hx2 : x ≤ 200) (hq : q.size ≤ 9223372036854775807) :
    Calls Try.prog 26 #[.agg #[.int .i64 d, .int .i64 x, cv, .int .i64 n], .string q] w fun e w' => ∃ v, e = .returned v ∧ OwnN w' w.heap.size v (P.plc x q d) ∧ Below w.heap.size w w' := by
  have HOf := hide (fun (s : Nat) (v : Value) wx (hs : s ≤ 8) (h : RowB wx v (P.key q)) => of_any s v (P.key q) wx (by omega) h (byt_key q))
  have HLt := hide (fun s => P.hof_lt s (P.key q))
  have hdx : d * x ≤ 1600 := Nat.mul_le_mul hd hx2
  go_enter Try.func26, Try.ntmps26
  go_wp2
  have hB0 := (Below.refl w.heap.size w).alloc (Nat.le_refl _) (.cells #[.int .i64 d, .int .i64 x, cv, .int .i64 n] 24)
  have c0 : (w.alloc (.cells #[.int .i64 d, .int .i64 x, cv, .int .i64 n] 24)).cell? ⟨w.heap.size, 0, none⟩ = some (.int .i64 d) := by simp
  have c1 : (w.alloc (.cells #[.int .i64 d, .int .i64 x, cv, .int .i64 n] 24)).cell? ⟨w.heap.size, 1, none⟩ = some (.int .i64 x) := by simp
  have hs1 : (w.alloc (.cells #[.int .i64 d, .int .i64 x, cv, .int .i64 n] 24)).heap.size = w.heap.size + 1 := by simp
  generalize w.alloc (.cells #[.int .i64 d, .int .i64 x, cv, .int .i64 n] 24) = W1 at *
  go_loopw [5, 10] (fun v i wr => ∃ k : Nat, k ≤ d ∧ i = .int .i64 k ∧ OwnN wr W1.heap.size v (P.plc x q k) ∧ Below W1.heap.size W1 wr) (fun _ i _ => d - (intOf i).toNat)
  case atStart => exact ⟨0, by omega, rfl, OwnK.nil _ _ _ _, Below.refl _ _⟩
  case round =>
    obtain ⟨k, hk, rfl, hown, hB⟩ := hrel
    obtain ⟨xa, xc, rfl⟩ := hown.shape
    have b0 := keep_cell c0 hB
    have b1 := keep_cell c1 hB
    by_cases hlt : k < d
    · have j0 : (0 : Int) ≤ (k : Int) := by omega
      have j1 : (k : Int) < (d : Int) := by omega
      have e0 : IntKind.u64.wrap (k : Int) = (k : Int) := by rw [IntKind.wrap_u64]; omega
      obtain ⟨vb, wb, hcv, hrb, hbb⟩ := conv_key q wr hq
      have HB := hide (Below.next hB hbb)
      have HOw := hide (hown.below hbb (Nat.le_refl _))
      replace b0 := keep_cell b0 hbb
      replace b1 := keep_cell b1 hbb
      have hO2 := hide (HOf.out k vb wb (by omega) hrb)
      have HSuc := hide (P.plc_succ x q k)
      have hlt64 := HLt.out k
      have hkx : k * x + x ≤ d * x := by have : (k + 1) * x ≤ d * x := Nat.mul_le_mul_right _ hlt; rw [Nat.succ_mul] at this; exact this
      unfold P.hc at HSuc
      generalize P.hof k (P.key q) = H at hO2 HSuc hlt64
      have hmod : H % x < x := Nat.mod_lt _ (by omega)
      have e1 : IntKind.i64.wrap ((k : Int) * (x : Int)) = ((k * x : Nat) : Int) := by rw [← Int.natCast_mul, IntKind.wrap_i64]; generalize k * x = z at hkx; omega
      have e2 : IntKind.u64.wrap (x : Int) = (x : Int) := by rw [IntKind.wrap_u64]; omega
      have e3 : IntKind.i64.wrap (((H % x : Nat)) : Int) = ((H % x : Nat) : Int) := by rw [IntKind.wrap_i64]; omega
      have e4 : ((x : Int) == 0) = false := by rw [beq_eq_false_iff_ne]; omega
      have e5 : ¬ x = 0 := by omega
      have HPl := hide (P.plc_len x q k)
      have HY : Hid (IntKind.i64.wrap ((k : Int) * (x : Int) + IntKind.i64.wrap (Int.tmod (H : Int) (x : Int))) = ((k * x + H % x : Nat) : Int)) := by
        show _ = _
        have h1 : Int.tmod (H : Int) (x : Int) = ((H % x : Nat) : Int) := by rw [Int.tmod_eq_emod_of_nonneg (by omega)]; simp
        rw [h1, e3, ← Int.natCast_mul, IntKind.wrap_i64]
        generalize k * x = z at hkx
        omega
      have hsz := HB.out.size
      clear hrb hbb hown hB HOf HLt
      go_wp2_with (go_at_call 35; go_must (refine hO2.out.mono ?_); rintro e w3 ⟨rfl, rfl⟩)
      go_region_law (first
        | (refine step_appNd rfl (.tmp 18) (.tmp 30) rfl W1.heap.size W1.heap.size W1 w3 _ (P.plc x q k) _ HOw.out HB.out (Nat.le_refl _) rfl rfl (by rw [HPl.out]; omega) hsz ?_; intro v1 w1 own1 hb1 _ _)
        | (refine step_appN rfl (.tmp 18) (.tmp 30) rfl W1.heap.size W1.heap.size W1 w3 _ (P.plc x q k) _ HOw.out HB.out (Nat.le_refl _) rfl rfl (by rw [HPl.out]; omega) hsz ?_; intro v1 w1 own1 hb1 _ _))
      all_goals
        rw [HY.out, ← HSuc.out] at own1
        have HO1 := hide own1
        obtain ⟨xa1, xc1, rfl⟩ := own1.shape
        go_wp2
        go_roundw
        case rel => exact ⟨k + 1, by omega, by go_num, HO1.out, hb1⟩
        case measure => simp [intOf]; omega
    · obtain rfl : k = d := by omega
      have hd2 : decide ((k : Int) < (k : Int)) = false := by simp
      go_wp2
      go_ret
      exact ⟨_, rfl, hown.base (by omega), hB0.trans (hB.mono (by omega))⟩
end Go.Proofs.Ytenfpkokogfdaaa
