/- Several texts in one. -/
import Derived.Test.YtenfpkokogfdaaaKitSkAll
import Derived.RangeFuncFrom
import Derived.RangeFuncNested
import Derived.RangeFuncBound
import Derived.RangeFuncCalls
import Derived.RangeFuncLeaves
import Derived.Shelf.Abstract
import Derived.Shelf.RegionOpen
import Derived.WalkKit
import Derived.OwnWalkIn
import Derived.TacticsInMore
import Derived.LoopNIn
import Derived.LoopIn
import Derived.Sort.QuietIn
/- What slices.Chunk hands back: an iterator over the rows of a sketch. -/
namespace Go.Proofs.Ytenfpkokogfdaaa
open Go.RowKit Go.Shelf
set_option linter.unusedVariables false
attribute [local go_sem] Oper.semAt_some
/-- What has come when k rounds are over. -/
def upto {α : Type} (f : Nat → α) (k : Nat) : List α := (List.range k).map f
theorem upto_succ {α : Type} (f : Nat → α) (k : Nat) : upto f (k + 1) = upto f k ++ [f k] := by simp [upto, List.range_succ]
theorem upto_length {α : Type} (f : Nat → α) (k : Nat) : (upto f k).length = k := by simp [upto]
/-- The numbers below d. -/
abbrev Num (d : Nat) : Type := { i : Nat // i < d }
/-- Number k, or the least. -/
def num (d : Nat) (hd : 0 < d) (k : Nat) : Num d := if h : k < d then ⟨k, h⟩ else ⟨0, hd⟩
theorem num_val (d : Nat) (hd : 0 < d) (k : Nat) (h : k < d) : (num d hd k).1 = k := by unfold num; rw [dif_pos h]
/-- A row's value. -/
abbrev rowV (b off x : Nat) (i : Nat) : Value := .slice (some ⟨b, off + i * x, none⟩) x x
theorem Chunk_any (a : Option Addr) (len cap : Nat) (x : Int) (w : World) (hx : 1 ≤ x) :
    Calls Try.prog 28 #[.slice a len cap, .int .i64 x] w fun e w' => e = .returned (.func (.func 36) #[] #[.pointer (some ⟨w.heap.size, 0, none⟩), .pointer (some ⟨w.heap.size + 1, 0, none⟩)]) ∧ w' = (w.alloc (.cells #[.slice a len cap] 22)).alloc (.cells #[.int .i64 x] 3) := by
  have hd : decide (x < 1) = false := by simp; omega
  have hmf : ∀ (fn : Fn) (first cap : Array Value) (w : World), (Instr.makeFunc fn first cap).run Try.prog w = .ok (.func fn first cap) w := fun _ _ _ _ => rfl
  go_enter Try.func28, Try.ntmps28
  go_wp2
  go_ret
  exact ⟨rfl, rfl⟩
set_option maxRecDepth 100000 in
set_option maxHeartbeats 2000000 in
theorem chunk1_in (n : Nat) (hn : 1 ≤ n) (l Bs Bn n₀ b off cap d x : Nat) (hd : 0 < d) (hd8 : d ≤ 8) (hx : 0 < x) (hx2 : x ≤ 200) (hcap : d * x ≤ cap) (hcm : cap ≤ maxLen) (hbs : Bs < n₀) (hbn : Bn < n₀) (J Jx : List (Num d) → World → Prop)
    (hY : ∀ pre y W, J pre W → pre.length < d → YieldAt Fence.wide (n - 1) Try.prog l #[rowV b off x y.1] W fun e W' =>
      (e = .returned (.bool true) ∧ J (pre ++ [y]) W' ∧ Below n₀ W W') ∨ (e = .returned (.bool false) ∧ Jx (pre ++ [y]) W'))
    (hJd : ∀ pre W q, J pre W → J pre (W.drewN q))
    (W : World) (hBs : W.cell? ⟨Bs, 0, none⟩ = some (.slice (some ⟨b, off, none⟩) (d * x) cap)) (hBn : W.cell? ⟨Bn, 0, none⟩ = some (.int .i64 x)) (h0 : J [] W) :
    CallsIn Fence.wide n Try.prog 36 #[.func (.yield l) #[] #[], .pointer (some ⟨Bs, 0, none⟩), .pointer (some ⟨Bn, 0, none⟩)] W fun e W' => (∃ v, e = .returned v) ∧
      ((∃ ys, ys = upto (num d hd) d ∧ J ys W') ∨ (∃ pre, (∃ k, k ≤ d ∧ pre = upto (num d hd) k) ∧ Jx pre W')) := by
  unfold maxLen at hcm
  have hdx : d * x ≤ 1600 := Nat.mul_le_mul hd8 hx2
  refine callsIn_of_wp Try.func36 rfl trivial ?_ rfl
  simp only [Try.ntmps36, List.size_toArray, List.length_cons, List.length_nil, Nat.reduceAdd, Nat.reduceSub, Array.replicate_succ, Array.replicate_zero, List.push_toArray, List.append_toArray, List.nil_append, List.cons_append]
  gi_wp2
  gi_loopw [4] (fun i wr => ∃ k : Nat, k ≤ d ∧ i = .int .i64 (k * x : Nat) ∧ J (upto (num d hd) k) wr ∧ Below n₀ W wr)
    (fun i _ => d * x - (intOf i).toNat)
  case atStart => exact ⟨0, Nat.zero_le _, by simp, h0, Below.refl _ _⟩
  case round =>
    obtain ⟨k, hk, rfl, hJs, hnx⟩ := hrel
    have cs := (hnx.cell (p := ⟨Bs, 0, none⟩) hbs).trans hBs
    have cn := (hnx.cell (p := ⟨Bn, 0, none⟩) hbn).trans hBn
    have HJ := hide hJs
    have HB := hide hnx
    clear hJs hnx hBs hBn
    by_cases hlt : k < d
    · have hkx : k * x + x ≤ d * x := by have : (k + 1) * x ≤ d * x := Nat.mul_le_mul_right _ hlt; rw [Nat.succ_mul] at this; exact this
      have e1 : IntKind.i64.wrap (((k * x : Nat) : Int) + (x : Int)) = ((k * x + x : Nat) : Int) := by rw [IntKind.wrap_i64]; omega
      generalize hp : k * x = p at *
      generalize hq : d * x = q at *
      have j0 : (0 : Int) ≤ (p : Int) := by omega
      have j1 : (p : Int) ≤ (q : Int) := by omega
      have j2 : (q : Int) ≤ (cap : Int) := by omega
      have e2 : ¬ (q - p < x) := by omega
      have e3 : ¬ cap = p := by omega
      have HY := hide hY
      have HN : Hid ((num d hd k).1 * x = p) := by show _ = _; rw [num_val d hd k hlt]; exact hp
      clear hY
      gi_wp2
      gi_quiet (fail)
      obtain ⟨fn, tmps, assign, body, hy, hR⟩ := HY.out _ (num d hd k) (wr.drewN nq) (hJd _ _ _ HJ.out) (by rw [upto_length]; exact hlt)
      simp only [rowV, HN.out] at hy
      have csn : (wr.drewN nq).cell? ⟨Bs, 0, none⟩ = _ := cs
      have cnn : (wr.drewN nq).cell? ⟨Bn, 0, none⟩ = _ := cn
      have HB2 : Hid (Below n₀ W (wr.drewN nq)) := below_dn HB.out nq
      have hnq : Below n₀ wr (wr.drewN nq) := below_dn (Below.refl _ _) nq
      generalize wr.drewN nq = w3 at *
      gi_wp2
      refine hR.mono ?_
      rintro e w4 (⟨rfl, hJ3, hk3⟩ | ⟨rfl, hJx3⟩)
      · have cs4 := (hk3.cell (p := ⟨Bs, 0, none⟩) hbs).trans csn
        have cn4 := (hk3.cell (p := ⟨Bn, 0, none⟩) hbn).trans cnn
        have HB4 := hide (HB2.out.trans hk3)
        have HJ4 := hide hJ3
        clear hk3 hJ3 csn cnn cs cn hy
        gi_wp2
        go_roundw
        case rel => exact ⟨k + 1, by omega, by rw [show ((k + 1) * x : Nat) = p + x by rw [← hp, Nat.succ_mul]]; simp, by rw [upto_succ]; exact HJ4.out, HB4.out⟩
        case measure => simp [intOf]; omega
      · gi_wp2
        refine bodyPost_ret (results_none rfl _ _ _) rfl ?_
        exact ⟨⟨_, rfl⟩, .inr ⟨_, ⟨k + 1, by omega, (upto_succ _ _).symm⟩, hJx3⟩⟩
    · obtain rfl : k = d := by omega
      gi_wp2
      go_end0
      exact ⟨⟨_, rfl⟩, .inl ⟨_, rfl, HJ.out⟩⟩
/-- The iterator over the rows of a sketch: all of them in their order, or a front of them. -/
theorem chunk_stops (n : Nat) (hn : 1 ≤ n) (Bs Bn n₀ b off cap d x : Nat) (hd : 0 < d) (hd8 : d ≤ 8) (hx : 0 < x) (hx2 : x ≤ 200) (hcap : d * x ≤ cap) (hcm : cap ≤ maxLen) (w : World) (hbs : Bs < n₀) (hbn : Bn < n₀) (hn₀ : n₀ ≤ w.heap.size)
    (hBs : w.cell? ⟨Bs, 0, none⟩ = some (.slice (some ⟨b, off, none⟩) (d * x) cap)) (hBn : w.cell? ⟨Bn, 0, none⟩ = some (.int .i64 x)) :
    SeqStopsK Fence.wide n Try.prog 36 #[.pointer (some ⟨Bs, 0, none⟩), .pointer (some ⟨Bn, 0, none⟩)] (fun y : Num d => #[rowV b off x y.1]) (Below n₀) (fun ys => ys = upto (num d hd) d) (fun pre => ∃ k, k ≤ d ∧ pre = upto (num d hd) k) d w := fun l J Jx W hW hJ _ hY h0 => by
  have h1 := (hW.cell (p := ⟨Bs, 0, none⟩) (Nat.lt_of_lt_of_le hbs hn₀)).trans hBs
  have h2 := (hW.cell (p := ⟨Bn, 0, none⟩) (Nat.lt_of_lt_of_le hbn hn₀)).trans hBn
  exact chunk1_in n hn l Bs Bn n₀ b off cap d x hd hd8 hx hx2 hcap hcm hbs hbn J Jx hY (fun pre W1 q hj => hJ _ _ _ none hj ⟨rfl, rfl, rfl, Nat.le_refl _, fun _ _ _ => rfl⟩ (fun r e => by cases e)) W h1 h2 h0
end Go.Proofs.Ytenfpkokogfdaaa
