/- What fitsValue, others do. -/
import Derived.Test.YtlghnnmgbdjgoaaIdxA
import Derived.Test.YtlghnnmgbdjgoaaIdxP
namespace Go.Proofs.Ytlghnnmgbdjgoaa
open Go.RowKit Go.Maps Go.ChangeMaps
set_option linter.unusedVariables false
abbrev mtV (x : P.Mt) : Value := .agg #[.int .i64 x.1, .string x.2.1, .string x.2.2]
/-- The block of one match. -/
abbrev MtBlk (w : World) (ob : Nat) (x : P.Mt) : Prop := w.heap[ob]? = some (.cells #[.int .i64 x.1, .string x.2.1, .string x.2.2] 56)
theorem mtOk1_of {x : P.Mt} (h : P.chkM [x] = 0) : MtOk1 x := by
  have hw := P.chkM_wf h x (by simp)
  obtain ⟨h1, ⟨h2, h3⟩, h4⟩ := hw
  refine ⟨⟨by omega, by omega⟩, ?_, by omega⟩
  unfold P.chkM at h
  rw [if_neg (by simp), P.chkMF] at h
  split at h
  · cases h
  · split at h
    · cases h
    · rename_i h5 h6
      have : P.goodN (P.dl x.2.1) = true := by simpa using h6
      unfold P.goodN at this
      simp at this
      have := this.1.1.2
      rw [P.dl_size]
      simp only [P.dl]
      simp
      omega
set_option maxHeartbeats 1000000 in
theorem fitsValue_any (v : ByteArray) (x : P.Mt) (w : World) (hx : P.chkM [x] = 0) (hv : v.size ≤ 40) (mx : Int) (hm : w.cell? ⟨0, 0, none⟩ = some (.int .i64 mx)) :
    Calls Try.prog 68 #[.string v, mtV x] w fun e w' => e = .returned (.bool (P.fv v x)) ∧ Below w.heap.size w w' := by
  have hO := mtOk1_of hx
  have HR := hide (P.fitsB_one hx hv)
  obtain ⟨k, n, u⟩ := x
  let w1 := w.alloc (.cells #[.int .i64 k, .string n, .string u] 56)
  let w2 := w1.alloc (.cells #[.string n, .string v] 32)
  let w3 := w2.alloc (.cells #[.int .i64 k, .string n, .string u] 56)
  have b1 : Below w.heap.size w w1 := (Below.refl _ w).alloc (Nat.le_refl _) _
  have b2 : Below w1.heap.size w1 w2 := (Below.refl _ w1).alloc (Nat.le_refl _) _
  have b3 : Below w2.heap.size w2 w3 := (Below.refl _ w2).alloc (Nat.le_refl _) _
  have HB := hide (Below.next (Below.next b1 b2) b3)
  have HF := hide (fits_any (.slice (some ⟨w1.heap.size, 0, none⟩) 1 1) (.slice (some ⟨w2.heap.size, 0, none⟩) 1 1) [(n, v)] [(k, n, u)] w3 ((RowX.one lbC 2 w1 (n, v) 32).below b3 (Nat.le_refl _))
    (by intro y hy; simp at hy; subst hy; exact ⟨hO.2.1, by simp; omega⟩) (RowX.one mtC 3 w2 (k, n, u) 56) (by intro y hy; simp at hy; subst hy; exact hO) mx (keep_cell (keep_cell (keep_cell hm b1) b2) b3))
  have z1 : w1.heap.size = w.heap.size + 1 := by simp [w1]
  have z2 : w2.heap.size = w.heap.size + 2 := by simp [w2, w1]
  rw [z1, z2] at HF
  clear b1 b2 b3 z1 z2 hm hO hx
  generalize P.fitsE [(n, v)] [(k, n, u)] = E at HF
  generalize P.fitsB [(n, v)] [(k, n, u)] = A at HF HR
  go_enter Try.func68, Try.ntmps68
  go_wp2_with fail
  refine HF.out.mono ?_
  rintro e w4 ⟨rfl, h4⟩
  go_wp2
  go_ret
  exact ⟨ret_bool HR.out, Below.next HB.out h4⟩
theorem others_any (w : World) (B bx bm N cnt : Nat) (F : ByteArray → Option Nat) (G : ByteArray → ByteArray → Value) (ev : List Ev) (h : Idx w B bx bm N cnt F G ev) (hc : cnt ≤ 1000) (v : Value) (l : List Int) (hr : RowK .i64 w v l) :
    Calls Try.prog 40 #[.pointer (some ⟨bx, 0, none⟩), v] w fun e w' => ∃ v', e = .returned v' ∧ OwnI w' w.heap.size v' (Q.notL cnt l) ∧ Below w.heap.size w w' := by
  have HN := hide (not_ok cnt v l w hr hc)
  have hcell := h.cellN
  obtain ⟨a, ca, rfl, _⟩ := hr
  clear h
  go_enter Try.func40, Try.ntmps40
  go_wp2_with fail
  refine HN.out.mono ?_
  rintro e w4 ⟨v', rfl, h1, h2⟩
  obtain ⟨a', c', rfl⟩ := OwnK.shape h1
  have H1 := hide h1
  clear h1
  go_wp2
  go_ret
  exact ⟨_, rfl, H1.out, h2⟩
end Go.Proofs.Ytlghnnmgbdjgoaa
