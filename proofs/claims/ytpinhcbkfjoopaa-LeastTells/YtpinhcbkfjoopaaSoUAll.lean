/- Several texts in one. -/
import Derived.Test.YtpinhcbkfjoopaaKitKAll
import Derived.Sort.AssemblyPlain
import Derived.WalkKit
import Derived.BigGuard
import Derived.BigCall
import Derived.CellFam
import Derived.Deep.Draws
import Derived.Deep.QuietTactic
import Derived.BigQuiet
import Derived.BigRegion
import Derived.Deep.Cut
/- Rows of numbers below 2^64 while they are sorted: the row in its block, a swap, what stays. -/
namespace Go.Proofs.Ytpinhcbkfjoopaa
open Go.RowKit
set_option linter.unusedVariables false
set_option linter.unusedSimpArgs false
/-- A row of n numbers at the start of block g, in the making since w0: nothing below B has turned. -/
structure InR (B : Nat) (w0 : World) (g n cap : Nat) (w : World) (d : Array Int) : Prop where
  size : d.size = n
  own : OwnK 31 .u64 w B (.slice (some ⟨g, 0, none⟩) n cap) d.toList
  bel : Below B w0 w
theorem so_get (d : Array Int) (t : Nat) : d[t]! = d.toList.getD t 0 := by
  by_cases h : t < d.size
  · simp [List.getD_eq_getElem?_getD, h]
  · simp [List.getD_eq_getElem?_getD, h]
theorem InR.parts {B : Nat} {w0 w : World} {g n cap : Nat} {d : Array Int} (h : InR B w0 g n cap w d) :
    B ≤ g ∧ n ≤ cap ∧ cap ≤ maxLen ∧ ∃ cur : Array Value, w.heap[g]? = some (.cells cur 31 (0, 0)) ∧ cur.size = cap ∧ cur.toList.take n = d.toList.map (Value.int .u64) := by
  obtain ⟨h1, h2⟩ := h.own
  rcases h2 with ⟨hv, _⟩ | ⟨g', cap', cur, hv, hb, hg, hn, hm, hs, ht⟩
  · cases hv
  · simp only [Value.slice.injEq, Option.some.injEq, Addr.mk.injEq, and_true] at hv
    obtain ⟨rfl, hl, rfl⟩ := hv
    rw [← hl] at hn ht
    exact ⟨hb, by simpa using hn, hm, cur, hg, by simpa using hs, by simpa using ht⟩
theorem InR.cell {B : Nat} {w0 w : World} {g n cap : Nat} {d : Array Int} (h : InR B w0 g n cap w d) (t : Nat) (ht : t < n) : w.cell? ⟨g, t, none⟩ = some (.int .u64 d[t]!) := by
  obtain ⟨_, h1, _, cur, hg, hs, hc⟩ := h.parts
  have hd := h.size
  have e : cur[t]? = some (.int .u64 d[t]!) := by
    have h3 : (cur.toList.take n)[t]? = (d.toList.map (Value.int .u64))[t]? := by rw [hc]
    rw [List.getElem?_take, if_pos ht, List.getElem?_map] at h3
    rw [← Array.getElem?_toList, h3]
    simp [show t < d.size by omega]
  simp [World.cell?, hg, e]
theorem InR.free {B : Nat} {w0 w : World} {g n cap : Nat} {d : Array Int} (h : InR B w0 g n cap w d) (t : Nat) : w.frozen? ⟨g, t, none⟩ = false := by
  obtain ⟨_, _, _, cur, hg, _⟩ := h.parts
  simp [World.frozen?, hg]
theorem InR.lt {B : Nat} {w0 w : World} {g n cap : Nat} {d : Array Int} (h : InR B w0 g n cap w d) : B ≤ g ∧ g < w.heap.size := by
  obtain ⟨h1, _, _, cur, hg, _⟩ := h.parts
  exact ⟨h1, (Array.getElem?_eq_some_iff.1 hg).1⟩
theorem InR.draw {B : Nat} {w0 w : World} {g n cap : Nat} {d : Array Int} (h : InR B w0 g n cap w d) (q : Nat) : InR B w0 g n cap (w.drewN q) d :=
  ⟨h.size, h.own, ⟨h.bel.os, h.bel.tape, h.bel.output, h.bel.size, h.bel.block⟩⟩
/-- A number written. -/
theorem InR.set {B : Nat} {w0 w : World} {g n cap : Nat} {d : Array Int} (h : InR B w0 g n cap w d) (i : Nat) (x : Int) : InR B w0 g n cap (w.setCell ⟨g, i, none⟩ (.int .u64 x)) (d.setIfInBounds i x) := by
  have hb := h.lt
  obtain ⟨h1, h2⟩ := h.own
  refine ⟨by simp [h.size], ?_, h.bel.setCell (p := ⟨g, i, none⟩) hb.1 _⟩
  rcases h2 with ⟨hv, _⟩ | ⟨g', cap', cur, hv, hb, hg, hn, hm, hs, ht⟩
  · cases hv
  · simp only [Value.slice.injEq, Option.some.injEq, Addr.mk.injEq, and_true] at hv
    obtain ⟨rfl, hl, rfl⟩ := hv
    refine ⟨by simp, .inr ⟨g, cap, cur.setIfInBounds i (.int .u64 x), by simpa using h.size.symm, hb, heap_setCell_same w g _ _ _ _ hg, by simpa using hn, hm, by simpa using hs, ?_⟩⟩
    simp only [Array.toList_setIfInBounds, List.length_set, List.take_set, ht, List.map_set]
/-- Two numbers exchanged. -/
theorem InR.swap {B : Nat} {w0 w : World} {g n cap : Nat} {d : Array Int} (h : InR B w0 g n cap w d) (i j : Nat) :
    InR B w0 g n cap ((w.setCell ⟨g, i, none⟩ (.int .u64 d[j]!)).setCell ⟨g, j, none⟩ (.int .u64 d[i]!)) (Sort.swp d i j) := (h.set i _).set j _
/-- A new block that nobody else knows. -/
theorem InR.alloc {B : Nat} {w0 w : World} {g n cap : Nat} {d : Array Int} (h : InR B w0 g n cap w d) (o : Obj) : InR B w0 g n cap (w.alloc o) d := by
  have hb := h.lt
  refine ⟨h.size, ?_, h.bel.alloc (by omega) o⟩
  exact World.ownsRow.alloc h.own o
theorem swp_same (d : Array Int) (i j : Nat) : Sort.swp d i j = Sort.swp d j i := by
  by_cases h : i = j
  · rw [h]
  · unfold Sort.swp; exact Array.setIfInBounds_comm _ _ h
set_option maxHeartbeats 1000000 in
theorem isNaN_u (x : Int) (w : World) : Calls Try.prog 62 #[.int .u64 x] w fun e w' => e = .returned (.bool false) ∧ w' = w := by
  go_enter Try.func62, Try.ntmps62
  go_wp2
  go_ret
  exact ⟨by simp, rfl⟩
set_option maxHeartbeats 1000000 in
/-- Less says whether x lies below y. -/
theorem less_u (x y : Int) (w : World) : Calls Try.prog 51 #[.int .u64 x, .int .u64 y] w fun e w' => e = .returned (.bool (decide (x < y))) ∧ w' = w := by
  go_enter Try.func51, Try.ntmps51
  go_wp2_with (go_at_call 62; refine (isNaN_u _ _).mono ?_; rintro e w' ⟨rfl, rfl⟩)
  go_ret
  exact ⟨rfl, rfl⟩
end Go.Proofs.Ytpinhcbkfjoopaa
