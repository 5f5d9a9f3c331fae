/- Several texts in one. -/
import Derived.Test.YtpinhcbkfjoopaaSoUAll
import Derived.OneCell
/- Numbers below 2^64: the lesser of two, the middle of three. -/
namespace Go.Proofs.Ytpinhcbkfjoopaa
open Go.RowKit
set_option linter.unusedVariables false
/-- A count in a box of its own, beside the row. -/
structure Cnt (B : Nat) (w : World) (g s : Nat) (k : Int) : Prop where
  base : B ≤ s
  ne : s ≠ g
  cell : w.cell? ⟨s, 0, none⟩ = some (.int .i64 k)
  free : w.frozen? ⟨s, 0, none⟩ = false
  low : 0 ≤ k
theorem Cnt.draw {B : Nat} {w : World} {g s : Nat} {k : Int} (h : Cnt B w g s k) (q : Nat) : Cnt B (w.drewN q) g s k := ⟨h.base, h.ne, h.cell, h.free, h.low⟩
theorem InR.far {B : Nat} {w0 w : World} {g n cap : Nat} {d : Array Int} (h : InR B w0 g n cap w d) {s : Nat} (hs : B ≤ s) (hn : s ≠ g) (v : Value) : InR B w0 g n cap (w.setCell ⟨s, 0, none⟩ v) d := by
  refine ⟨h.size, ?_, h.bel.setCell (p := ⟨s, 0, none⟩) hs v⟩
  exact ownsRow_setCell_other h.own (a := ⟨s, 0, none⟩) (by simp [Value.ownBlock]; exact fun e => hn e.symm) v
theorem Cnt.put {B : Nat} {w : World} {g s : Nat} {k : Int} (h : Cnt B w g s k) {k' : Int} (h0 : 0 ≤ k') : Cnt B (w.setCell ⟨s, 0, none⟩ (.int .i64 k')) g s k' :=
  ⟨h.base, h.ne, by first | exact World.cell?_setCell_same _ _ _ h.cell | simp [h.cell], by simp [h.free], h0⟩
set_option maxHeartbeats 4000000 in
set_option maxRecDepth 100000 in
theorem ord_u {B : Nat} {w0 w : World} {g n cap s : Nat} {d : Array Int} {k : Int} (h : InR B w0 g n cap w d) (hc : Cnt B w g s k) (p q : Nat) (hp : p < n) (hq : q < n) (hk : k ≤ 1000) :
    Calls Try.prog 63 #[.slice (some ⟨g, 0, none⟩) n cap, .int .i64 p, .int .i64 q, .pointer (some ⟨s, 0, none⟩)] w fun e w' =>
      ∃ (p' q' : Nat) (k' : Int), e = .returned (.tuple #[.int .i64 p', .int .i64 q']) ∧ (p' = p ∧ q' = q ∨ p' = q ∧ q' = p) ∧ InR B w0 g n cap w' d ∧ Cnt B w' g s k' ∧ k' ≤ k + 1 := by
  have HK := hide h
  have HC := hide hc
  have c0 := h.cell p hp
  have c1 := h.cell q hq
  have cs := hc.cell
  have fs := hc.free
  have k0 := hc.low
  have j0 : (0 : Int) ≤ (p : Int) := by omega
  have j1 : (p : Int) < (n : Int) := by omega
  have j2 : (0 : Int) ≤ (q : Int) := by omega
  have j3 : (q : Int) < (n : Int) := by omega
  clear h hc
  generalize hx : d[p]! = x at c0
  generalize hy : d[q]! = y at c1
  clear hx hy
  by_cases hlt : y < x
  · have hd3 : decide (y < x) = true := by simpa using hlt
    go_enter Try.func63, Try.ntmps63
    go_wp2
    go_quiet (first | (go_at_call 51; refine Calls.quiet_of_same (less_u _ _ _)))
    go_wp2
    refine bodyPost_ret (results_tmp2 rfl _ _ _) rfl ?_
    refine ⟨q, p, k + 1, rfl, .inr ⟨rfl, rfl⟩, ?_, ?_, by omega⟩
    · exact (HK.out.draw _).far HC.out.base HC.out.ne _
    · exact (HC.out.draw _).put (by omega)
  · have hd3 : decide (y < x) = false := by simpa using hlt
    go_enter Try.func63, Try.ntmps63
    go_wp2
    go_quiet (first | (go_at_call 51; refine Calls.quiet_of_same (less_u _ _ _)))
    go_wp2
    refine bodyPost_ret (results_tmp2 rfl _ _ _) rfl ?_
    exact ⟨p, q, k, rfl, .inl ⟨rfl, rfl⟩, HK.out.draw _, HC.out.draw _, by omega⟩
set_option maxHeartbeats 4000000 in
set_option maxRecDepth 100000 in
theorem med_u {B : Nat} {w0 w : World} {g n cap s : Nat} {d : Array Int} {k : Int} (h : InR B w0 g n cap w d) (hc : Cnt B w g s k) (p q r : Nat) (hp : p < n) (hq : q < n) (hr : r < n) (hk : k ≤ 900) :
    Calls Try.prog 61 #[.slice (some ⟨g, 0, none⟩) n cap, .int .i64 p, .int .i64 q, .int .i64 r, .pointer (some ⟨s, 0, none⟩)] w fun e w' =>
      ∃ (m : Nat) (k' : Int), e = .returned (.int .i64 m) ∧ (m = p ∨ m = q ∨ m = r) ∧ InR B w0 g n cap w' d ∧ Cnt B w' g s k' ∧ k' ≤ k + 3 := by
  have HC1 := hide (ord_u h hc p q hp hq (by omega))
  clear h hc
  go_enter Try.func61, Try.ntmps61
  go_wp2_with fail
  refine HC1.out.mono ?_
  rintro e w1 ⟨p1, q1, k1, rfl, h1, hr1, hc1, hk1⟩
  have HC2 := hide (ord_u hr1 hc1 q1 r (by omega) hr (by omega))
  have H1 := hide h1
  clear hr1 hc1 HC1 h1
  go_wp2_with fail
  refine HC2.out.mono ?_
  rintro e w2 ⟨p2, q2, k2, rfl, h2, hr2, hc2, hk2⟩
  have HC3 := hide (ord_u hr2 hc2 p1 p2 (by have := H1.out; omega) (by have := H1.out; omega) (by omega))
  have H2 := hide h2
  clear hr2 hc2 HC2 h2
  go_wp2_with fail
  refine HC3.out.mono ?_
  rintro e w3 ⟨p3, q3, k3, rfl, h3, hr3, hc3, hk3⟩
  have H3 := hide h3
  have HK := hide hr3
  have HC := hide hc3
  clear hr3 hc3 HC3 h3
  go_wp2
  go_ret
  exact ⟨q3, k3, rfl, by have := H1.out; have := H2.out; have := H3.out; omega, HK.out, HC.out, by omega⟩
set_option maxHeartbeats 4000000 in
set_option maxRecDepth 100000 in
theorem adj_u {B : Nat} {w0 w : World} {g n cap s : Nat} {d : Array Int} {k : Int} (h : InR B w0 g n cap w d) (hc : Cnt B w g s k) (p : Nat) (hp : 0 < p) (hp2 : p + 1 < n) (hk : k ≤ 900) (hn : n ≤ 1152921504606846976) :
    Calls Try.prog 60 #[.slice (some ⟨g, 0, none⟩) n cap, .int .i64 p, .pointer (some ⟨s, 0, none⟩)] w fun e w' =>
      ∃ (m : Nat) (k' : Int), e = .returned (.int .i64 m) ∧ (p ≤ m + 1 ∧ m ≤ p + 1) ∧ InR B w0 g n cap w' d ∧ Cnt B w' g s k' ∧ k' ≤ k + 3 := by
  obtain ⟨o, ho⟩ : ∃ o, o + 1 = p := ⟨p - 1, by omega⟩
  have HC1 := hide (med_u h hc o p (p + 1) (by omega) (by omega) (by omega) (by omega))
  have e1 : IntKind.i64.wrap ((p : Int) - 1) = (o : Int) := by rw [IntKind.wrap_i64]; omega
  have e2 : ((p + 1 : Nat) : Int) = (p : Int) + 1 := by omega
  rw [e2] at HC1
  have HO := hide ho
  clear h hc e2 ho
  go_enter Try.func60, Try.ntmps60
  go_wp2_with fail
  refine HC1.out.mono ?_
  rintro e w1 ⟨m, k1, rfl, h1, hr1, hc1, hk1⟩
  have HK := hide hr1
  have HC := hide hc1
  have H1 := hide h1
  clear hr1 hc1 HC1 h1
  go_wp2
  go_ret
  exact ⟨m, k1, rfl, by have := H1.out; have := HO.out; omega, HK.out, HC.out, by omega⟩
end Go.Proofs.Ytpinhcbkfjoopaa
