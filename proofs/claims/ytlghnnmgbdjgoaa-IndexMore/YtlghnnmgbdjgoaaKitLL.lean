/- A slice of slices of labels that came in, opened. -/
import Derived.Test.YtlghnnmgbdjgoaaIdxE
namespace Go.Proofs.Ytlghnnmgbdjgoaa
open Go.RowKit
set_option linter.unusedVariables false
theorem cells28 : Try.prog.cellsOf 28 = 1 := by kernel_rfl
theorem bytes28 : Try.prog.bytesOf 28 = 24 := by kernel_rfl
theorem open_labelss {H : Type} {enc : TypeId × Value → H} {W : World} {a : Option Addr} {len cap : Nat} {d : DataW H} {p : List MemPlace}
    (h : ∃ fuel, DataW.trod enc Try.prog W 0 (fun _ => true) true fuel 22 [.slice a len cap] = some (d, p)) :
    ∃ L : List (List P.Lb), RowsL W (.slice a len cap) L ∧ (∀ l ∈ L, LbOk l) ∧ (d = .nil ∧ L.length = 0 ∨ ∃ elems spare, d = .slice elems spare ∧ elems.length = L.length) := by
  obtain ⟨fuel, hf⟩ := h
  rcases Go.Deep.open_slice Try.underlying22 hf with ⟨hcs, hx⟩ | ⟨x, l, c, m, n, D, Pl, hcs, _, hl, hm, hmm, hx, hel⟩
  · simp at hcs hx
    obtain ⟨rfl, rfl, rfl⟩ := hcs
    exact ⟨[], ⟨none, 0, rfl, ⟨by simp, by simp⟩, .inl rfl⟩, (fun s hs => by cases hs), .inl ⟨hx.1, rfl⟩⟩
  · simp at hcs hx hmm
    obtain ⟨rfl, rfl, rfl⟩ := hcs
    have key : ∀ i, i < len → ∃ y : List P.Lb, LbOk y ∧ ∃ vj, W.cell? (x.add i) = some vj ∧ RowL W vj y := by
      intro i hi
      obtain ⟨cs', h1, h2⟩ := hel i (by omega)
      rw [cells28] at h1
      obtain ⟨_, hlen, hcell⟩ := World.cells?_some h1
      match cs', hlen with
      | [v0], _ =>
        have e0 := hcell 0 (by omega)
        rw [Go.Deep.add_add] at e0
        have e1 : W.cell? (x.add i) = some v0 := by simpa using e0
        rcases Go.Deep.open_slice Try.underlying28 h2 with ⟨hv, _⟩ | ⟨x2, l2, c2, m2, n2, D2, P2, hv, _⟩
        · simp at hv
          subst hv
          obtain ⟨y, hy1, hy2, _⟩ := open_labels ⟨n, h2⟩
          exact ⟨y, hy2, _, e1, hy1⟩
        · simp at hv
          subst hv
          obtain ⟨y, hy1, hy2, _⟩ := open_labels ⟨n, h2⟩
          exact ⟨y, hy2, _, e1, hy1⟩
    obtain ⟨f, hf2⟩ := Go.Deep.choose_lt key
    have hlen : ((List.range len).map f).length = len := by simp
    refine ⟨(List.range len).map f, ⟨some x, cap, by rw [hlen], ⟨by rw [hlen]; omega, hm⟩, ?_⟩, ?_, .inr ⟨_, _, hx.1, by simp⟩⟩
    · rcases Nat.eq_zero_or_pos len with h0 | h0
      · exact .inl (by rw [h0]; rfl)
      · right
        obtain ⟨b, off, spot⟩ := x
        obtain ⟨v0, h1, _⟩ := (hf2 0 (by omega)).2
        have hs : spot = none := by simpa [Addr.add] using World.cell?_spot h1
        subst hs
        refine ⟨b, off, rfl, World.block_lt_of_cell? W _ h1, fun j y hy => ?_⟩
        have hj : j < len := by
          rcases Nat.lt_or_ge j len with h | h
          · exact h
          · rw [List.getElem?_eq_none (by rw [hlen]; exact h)] at hy; cases hy
        simp [hj] at hy
        subst hy
        obtain ⟨_, vj, g0, g1⟩ := hf2 j hj
        have ea : ∀ k, (Addr.add ⟨b, off, none⟩ k) = ⟨b, off + k, none⟩ := by
          intro k
          unfold Addr.add; split
          · rename_i h; subst h; rfl
          · rfl
        rw [ea] at g0
        exact ⟨vj, g0, g1⟩
    · intro s hs
      obtain ⟨i, hi, rfl⟩ := List.mem_map.1 hs
      exact (hf2 i (List.mem_range.1 hi)).1
end Go.Proofs.Ytlghnnmgbdjgoaa
