/- Several texts in one. -/
import Derived.Test.YtenfpkokogfdaaaSkCoAll
import Derived.Test.YtenfpkokogfdaaaSkClAll
/- What Add answers. -/
namespace Go.Proofs.Ytenfpkokogfdaaa
open Go.RowKit
set_option linter.unusedVariables false
abbrev zeroK : Value := .agg #[.int .i64 0, .int .i64 0, .slice none 0 0, .int .i64 0]
namespace P
/-- What Add answers: the errors. -/
def adE (S : Sk) (m : Int) : Int := if m < 0 then 1 else if 1152921504606846976 < S.n + m then 2 else 0
/-- The sketch with a key more. -/
def adS (S : Sk) (q : ByteArray) (m : Int) : Sk := skAdd (fun i => hc S.w i q) S m
/-- Cells with the first k of a key's more. -/
def addK (h : Nat → Nat) (w : Nat) (c : List Int) (m : Int) (k : Nat) : List Int := c.mapIdx fun p x => x + (if p / w < k ∧ p % w = h (p / w) then m else 0)
theorem addK_len (h : Nat → Nat) (w : Nat) (c : List Int) (m : Int) (k : Nat) : (addK h w c m k).length = c.length := by simp [addK]
theorem addK_zero (h : Nat → Nat) (w : Nat) (c : List Int) (m : Int) : addK h w c m 0 = c := by
  apply List.ext_getElem (by simp [addK])
  intro i h1 h2
  simp [addK]
theorem addK_all {h : Nat → Nat} {w : Nat} {c : List Int} {m : Int} {d : Nat} (hl : c.length = d * w) (hw : 0 < w) : addK h w c m d = addC h w c m := by
  apply List.ext_getElem (by simp [addK, addC])
  intro i h1 h2
  have hi : i < d * w := by rw [← hl]; simpa [addK] using h1
  have : i / w < d := Nat.div_lt_of_lt_mul (by rw [Nat.mul_comm]; exact hi)
  simp [addK, addC, this]
theorem addK_at (h : Nat → Nat) (w : Nat) (c : List Int) (m : Int) (k : Nat) (hw : 0 < w) (hk : h k < w) (hp : k * w + h k < c.length) : (addK h w c m k).getD (k * w + h k) 0 = c.getD (k * w + h k) 0 := by
  have hd : (k * w + h k) / w = k := place_div hk
  simp [addK, List.getD_eq_getElem?_getD, hp, hd]
theorem addK_succ (h : Nat → Nat) (w : Nat) (c : List Int) (m : Int) (k : Nat) (hw : 0 < w) (hk : h k < w) (hp : k * w + h k < c.length) : addK h w c m (k + 1) = (addK h w c m k).set (k * w + h k) ((addK h w c m k).getD (k * w + h k) 0 + m) := by
  have hd : (k * w + h k) / w = k := place_div hk
  have hm : (k * w + h k) % w = h k := place_mod hk
  rw [addK_at h w c m k hw hk hp]
  apply List.ext_getElem (by simp [addK])
  intro i h1 h2
  have hi : i < c.length := by simpa [addK] using h1
  rw [List.getElem_set]
  by_cases he : k * w + h k = i
  · subst he
    simp [addK, hd, hm, List.getD_eq_getElem?_getD, hp]
  · rw [if_neg he]
    simp only [addK, List.getElem_mapIdx]
    have : (i / w < k + 1 ∧ i % w = h (i / w)) ↔ (i / w < k ∧ i % w = h (i / w)) := by
      constructor
      · rintro ⟨a, b⟩
        refine ⟨?_, b⟩
        rcases Nat.lt_or_ge (i / w) k with h | h
        · exact h
        · exfalso
          have e : i / w = k := by omega
          have h3 := Nat.div_add_mod i w
          rw [e, Nat.mul_comm] at h3
          rw [b, e] at h3
          exact he h3
      · rintro ⟨a, b⟩; exact ⟨by omega, b⟩
    simp only [this]
end P
set_option maxRecDepth 100000 in
theorem Add_bad (cv : Value) (s : P.Rw) (q : ByteArray) (m : Int) (w : World) (hr : RowK .i64 w cv s.c) (hi : RwI s) (hb : ¬ P.GoodR s) :
    Calls Try.prog 10 #[aggS cv s, .string q, .int .i64 m] w fun e w' => e = .returned (.tuple #[zeroK, .int .i64 4]) ∧ Below w.heap.size w w' := by
  have HB := hide (((Below.refl w.heap.size w).alloc (Nat.le_refl _) (.cells #[.int .i64 s.d, .int .i64 s.w, cv, .int .i64 s.n] 24)).alloc (by simp) (.cells #[.int .i64 0, .int .i64 0, .slice none 0 0, .int .i64 0] 24))
  have HC := hide (Check_any cv s ((w.alloc (.cells #[.int .i64 s.d, .int .i64 s.w, cv, .int .i64 s.n] 24)).alloc (.cells #[.int .i64 0, .int .i64 0, .slice none 0 0, .int .i64 0] 24)) (hr.below HB.out (Nat.le_refl _)) hi)
  rw [P.chkS_no hb] at HC
  have HZ := hide (zero_new (w.alloc (.cells #[.int .i64 s.d, .int .i64 s.w, cv, .int .i64 s.n] 24)))
  have hsz : (w.alloc (.cells #[.int .i64 s.d, .int .i64 s.w, cv, .int .i64 s.n] 24)).heap.size = w.heap.size + 1 := by simp
  rw [hsz] at HZ
  clear hb hi hsz
  obtain ⟨av, cap, rfl⟩ := hr.shp
  clear hr
  go_enter Try.func10, Try.ntmps10
  go_upto_region 2 with fail
  generalize (w.alloc (.cells #[.int .i64 s.d, .int .i64 s.w, .slice av s.c.length cap, .int .i64 s.n] 24)).alloc (.cells #[.int .i64 0, .int .i64 0, .slice none 0 0, .int .i64 0] 24) = W1 at *
  refine HC.out.mono ?_
  rintro e w2 ⟨rfl, hb2⟩
  have hbx := HZ.out.below hb2
  have HB2 := hide (HB.out.trans (hb2.mono HB.out.size))
  clear HB HC HZ hb2
  have u0 := hbx.unfrozen 0; have u1 := hbx.unfrozen 1; have u2 := hbx.unfrozen 2; have u3 := hbx.unfrozen 3
  obtain ⟨c0, c1, c2, c3⟩ := hbx.cells
  have y6 := hbx.all (.slice none 0 0) z0
  have b6 := hide (Below.setK' HB2.out (g := w.heap.size + 1) (by omega) (.slice none 0 0) z0)
  obtain ⟨r0, r1, r2, r3⟩ := y6.cells
  clear y6 hbx
  go_wp2
  refine bodyPost_ret (w := setK w2 (w.heap.size + 1) (.slice none 0 0) z0) (v := .tuple #[zeroK, .int .i64 4]) ?_ rfl ⟨rfl, b6.out⟩
  generalize setK w2 (w.heap.size + 1) (.slice none 0 0) z0 = wf at *
  simp [z0] at r0 r1 r2 r3
  simp [results, Try.results10, go_sem, r0, r1, r2, r3]
end Go.Proofs.Ytenfpkokogfdaaa
