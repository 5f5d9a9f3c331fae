/- Several texts in one. -/
import Derived.Test.YtenfpkokogfdaaaSkAAll
import Derived.Test.YtenfpkokogfdaaaSkKAll
/- What Check answers of a sketch. -/
namespace Go.Proofs.Ytenfpkokogfdaaa
open Go.RowKit Go.Shelf
set_option linter.unusedVariables false
attribute [local go_sem] Oper.semAt_some
namespace P
/-- What is good of a sketch, told by its parts. -/
theorem good_of {s : Rw} (h : arB s.d s.w = true) (hl : (s.c.length : Int) = s.d * s.w) (h0 : 0 ≤ s.n) (h1 : s.n ≤ 1152921504606846976) (hr : ∀ i : Nat, (i : Int) < s.d → addB ((s.c.drop (i * s.w.toNat)).take s.w.toNat) s.n = true) : GoodR s := by
  unfold arB at h
  simp at h
  obtain ⟨d, w, c, n⟩ := s
  simp only at *
  obtain ⟨D, rfl⟩ : ∃ D : Nat, d = D := ⟨d.toNat, by omega⟩
  obtain ⟨X, rfl⟩ : ∃ X : Nat, w = X := ⟨w.toNat, by omega⟩
  simp only [Int.toNat_natCast] at hr
  have hlen : c.length = D * X := by exact_mod_cast hl
  refine ⟨⟨D, X, c, n⟩, ⟨by simp only; omega, by simp only; omega, by simp only; omega, by simp only; omega, hlen, h0, h1, fun x hx => ?_, fun i hi => ?_⟩, rfl⟩
  · obtain ⟨p, hp, rfl⟩ := List.getElem_of_mem hx
    have hp' : p < D * X := by rw [← hlen]; exact hp
    have hX : 0 < X := by omega
    have hi : p / X < D := Nat.div_lt_of_lt_mul (by rw [Nat.mul_comm]; exact hp')
    have h2 := (addB_iff.1 (hr (p / X) (by exact_mod_cast hi))).1
    have h3 : p / X * X + p % X = p := by rw [Nat.mul_comm]; exact Nat.div_add_mod p X
    have h4 := Nat.mod_lt p hX
    apply h2
    refine List.mem_of_getElem? (i := p % X) ?_
    rw [List.getElem?_take, if_pos h4, List.getElem?_drop, h3, List.getElem?_eq_getElem hp]
  · exact (addB_iff.1 (hr i (by exact_mod_cast hi))).2
theorem parts_of {s : Rw} (h : GoodR s) : arB s.d s.w = true ∧ (s.c.length : Int) = s.d * s.w ∧ 0 ≤ s.n ∧ s.n ≤ 1152921504606846976 ∧ ∀ i : Nat, (i : Int) < s.d → addB ((s.c.drop (i * s.w.toNat)).take s.w.toNat) s.n = true := by
  obtain ⟨S, hg, rfl⟩ := h
  obtain ⟨D, X, c, n⟩ := S
  have h1 := hg.d1; have h2 := hg.d8; have h3 := hg.w1; have h4 := hg.w200
  simp only at h1 h2 h3 h4
  refine ⟨by unfold arB Sk.raw; simp; omega, by show (c.length : Int) = (D : Int) * (X : Int); rw [hg.len]; simp, hg.n0, hg.n1, fun i hi => ?_⟩
  have hi' : i < D := by have h : (i : Int) < (D : Int) := hi; omega
  refine addB_yes (fun x hx => hg.cells x (List.mem_of_mem_drop (List.mem_of_mem_take hx))) ?_
  exact hg.sums i hi'
end P
/-- A cell in a new block. -/
theorem cell_made (W : World) (v : Value) (t : TypeId) : (W.alloc (.cells #[v] t)).cell? ⟨W.heap.size, 0, none⟩ = some v ∧ (W.alloc (.cells #[v] t)).frozen? ⟨W.heap.size, 0, none⟩ = false := by
  refine ⟨by simp, ?_⟩
  have h := heap_alloc_new W (.cells #[v] t)
  unfold World.frozen?
  rw [h]; rfl
theorem frozen_alloc_l {W : World} {p : Addr} {v : Value} (o : Obj) (h : W.cell? p = some v) (hf : W.frozen? p = false) : (W.alloc o).frozen? p = false :=
  (World.frozen?_of_block (((Below.refl _ W).alloc (Nat.le_refl _) o).block p.block (World.block_lt_of_cell? W p h))).trans hf
theorem cell_alloc_l {W : World} {p : Addr} {v : Value} (o : Obj) (h : W.cell? p = some v) : (W.alloc o).cell? p = some v := keep_alloc h o
set_option maxHeartbeats 1000000 in
theorem Check_early (cv : Value) (s : P.Rw) (w : World) (hr : RowK .i64 w cv s.c) (hi : RwI s) (h : P.arB s.d s.w = false ∨ (P.arB s.d s.w = true ∧ (s.c.length : Int) ≠ s.d * s.w) ∨ (P.arB s.d s.w = true ∧ (s.c.length : Int) = s.d * s.w ∧ s.n < 0) ∨ (P.arB s.d s.w = true ∧ (s.c.length : Int) = s.d * s.w ∧ 0 ≤ s.n ∧ 1152921504606846976 < s.n)) :
    Calls Try.prog 14 #[aggS cv s] w fun e w' => e = .returned (.int .i64 4) ∧ Below w.heap.size w w' := by
  have HA := hide (areRows_any s.d s.w)
  have hb : P.arB s.d s.w = true → s.d * s.w ≤ 1600 ∧ 0 ≤ s.d * s.w := by
    intro h
    unfold P.arB at h
    simp at h
    obtain ⟨h1, h2, h3, h4⟩ := h
    have h5 : s.d * s.w ≤ 8 * s.w := Int.mul_le_mul_of_nonneg_right h2 (by omega)
    exact ⟨by omega, Int.mul_nonneg (by omega) (by omega)⟩
  have hw : P.arB s.d s.w = true → IntKind.i64.wrap (s.d * s.w) = s.d * s.w := by intro h; have := hb h; rw [IntKind.wrap_i64]; omega
  obtain ⟨av, cap, hcv⟩ := hr.shp
  have HBe := hide (((Below.refl w.heap.size w).alloc (Nat.le_refl _) (.cells #[.int .i64 s.d, .int .i64 s.w, cv, .int .i64 s.n] 24)).alloc (by simp) (.cells #[.int .i64 4] 25))
  subst hcv
  clear hr hi hb
  rcases h with h | ⟨h, h2⟩ | ⟨h, h2, h3⟩ | ⟨h, h2, h3, h4⟩
  · rw [h] at HA
    clear h hw
    go_enter Try.func14, Try.ntmps14
    go_wp2_with (go_at_call 25; go_must (refine (HA.out _).mono ?_); rintro e w1 ⟨rfl, rfl⟩)
    refine bodyPost_ret (v := .int .i64 4) ?_ rfl ⟨rfl, HBe.out⟩
    simp [results, Try.results14, go_sem]
  · rw [h] at HA
    have e1 := hw h
    have d2 : ((s.c.length : Int) != s.d * s.w) = true := by rw [bne_iff_ne]; exact h2
    clear h hw h2
    go_enter Try.func14, Try.ntmps14
    go_wp2_with (go_at_call 25; go_must (refine (HA.out _).mono ?_); rintro e w1 ⟨rfl, rfl⟩)
    refine bodyPost_ret (v := .int .i64 4) ?_ rfl ⟨rfl, HBe.out⟩
    simp [results, Try.results14, go_sem]
  · rw [h] at HA
    have e1 := hw h
    have d2 : ((s.c.length : Int) != s.d * s.w) = false := by rw [bne_eq_false_iff_eq]; exact h2
    have d3 : decide (s.n < 0) = true := by simpa using h3
    clear h hw h2 h3
    go_enter Try.func14, Try.ntmps14
    go_wp2_with (go_at_call 25; go_must (refine (HA.out _).mono ?_); rintro e w1 ⟨rfl, rfl⟩)
    refine bodyPost_ret (v := .int .i64 4) ?_ rfl ⟨rfl, HBe.out⟩
    simp [results, Try.results14, go_sem]
  · rw [h] at HA
    have e1 := hw h
    have d2 : ((s.c.length : Int) != s.d * s.w) = false := by rw [bne_eq_false_iff_eq]; exact h2
    have d3 : decide (s.n < 0) = false := by simpa using h3
    have d4 : decide (1152921504606846976 < s.n) = true := by simpa using h4
    clear h hw h2 h3 h4
    go_enter Try.func14, Try.ntmps14
    go_wp2_with (go_at_call 25; go_must (refine (HA.out _).mono ?_); rintro e w1 ⟨rfl, rfl⟩)
    refine bodyPost_ret (v := .int .i64 4) ?_ rfl ⟨rfl, HBe.out⟩
    simp [results, Try.results14, go_sem]
set_option maxRecDepth 100000 in
set_option maxHeartbeats 4000000 in
/-- .. where the rows are looked at. -/
theorem Check_rows (b off cap d x : Nat) (c : List Int) (n : Int) (w : World) (hd1 : 1 ≤ d) (hd8 : d ≤ 8) (hx1 : 1 ≤ x) (hx2 : x ≤ 200) (hlen : c.length = d * x) (h0 : 0 ≤ n) (h1 : n ≤ 1152921504606846976) (hcap : d * x ≤ cap) (hcm : cap ≤ maxLen) (hbs : b < w.heap.size) (hcell : ∀ j, j < d * x → w.cell? ⟨b, off + j, none⟩ = some (.int .i64 (c.getD j 0))) :
    Calls Try.prog 14 #[.agg #[.int .i64 d, .int .i64 x, .slice (some ⟨b, off, none⟩) (d * x) cap, .int .i64 n]] w fun e w' => e = .returned (.int .i64 (P.chkS ⟨d, x, c, n⟩)) ∧ Below w.heap.size w w' := by
  have HA := hide (areRows_any d x)
  have har : P.arB (d : Int) (x : Int) = true := by unfold P.arB; simp; omega
  rw [har] at HA
  have hdx : d * x ≤ 1600 := Nat.mul_le_mul hd8 hx2
  have e1 : IntKind.i64.wrap ((d : Int) * (x : Int)) = ((d * x : Nat) : Int) := by
    rw [← Int.natCast_mul, IntKind.wrap_i64]
    generalize d * x = z at hdx
    omega
  have d2 : (((d * x : Nat) : Int) != ((d * x : Nat) : Int)) = false := by simp
  have d3 : decide (n < 0) = false := by simpa using h0
  have d4 : decide (1152921504606846976 < n) = false := by simpa using h1
  refine (callsIn_wide (n := 3)).1 ?_
  refine callsIn_of_wp_marks Try.func14 rfl trivial ?_ rfl
  simp only [Try.ntmps14, List.size_toArray, List.length_cons, List.length_nil, Nat.reduceAdd, Nat.reduceSub, Array.replicate_succ, Array.replicate_zero, List.push_toArray, List.append_toArray, List.nil_append, List.cons_append]
  gi_wp2_with first
    | (refine ⟨trivial, ?_⟩; gi_at_call 25; refine (callsIn_wide.2 (HA.out _)).mono ?_; rintro e w1 ⟨rfl, rfl⟩)
    | (refine ⟨trivial, ?_⟩; gi_at_call 28; refine (callsIn_wide.2 (Chunk_any _ _ _ _ _ (by omega))).mono ?_; rintro e w1 ⟨rfl, rfl⟩)
  have hs : ((((w.alloc (.cells #[.int .i64 d, .int .i64 x, .slice (some ⟨b, off, none⟩) (d * x) cap, .int .i64 n] 24)).alloc (.cells #[.int .i64 0] 25)).alloc (.cells #[.slice (some ⟨b, off, none⟩) (d * x) cap] 22)).alloc (.cells #[.int .i64 x] 3)).heap.size = w.heap.size + 4 := by simp
  have hB0 : Below w.heap.size w ((((w.alloc (.cells #[.int .i64 d, .int .i64 x, .slice (some ⟨b, off, none⟩) (d * x) cap, .int .i64 n] 24)).alloc (.cells #[.int .i64 0] 25)).alloc (.cells #[.slice (some ⟨b, off, none⟩) (d * x) cap] 22)).alloc (.cells #[.int .i64 x] 3)) :=
    ((((Below.refl _ w).alloc (Nat.le_refl _) _).alloc (by simp) _).alloc (by simp; omega) _).alloc (by simp; omega) _
  have c0 : ((((w.alloc (.cells #[.int .i64 d, .int .i64 x, .slice (some ⟨b, off, none⟩) (d * x) cap, .int .i64 n] 24)).alloc (.cells #[.int .i64 0] 25)).alloc (.cells #[.slice (some ⟨b, off, none⟩) (d * x) cap] 22)).alloc (.cells #[.int .i64 x] 3)).cell? ⟨w.heap.size, 3, none⟩ = some (.int .i64 n) := keep_alloc (keep_alloc (keep_alloc (by simp) _) _) _
  have c1 : ((((w.alloc (.cells #[.int .i64 d, .int .i64 x, .slice (some ⟨b, off, none⟩) (d * x) cap, .int .i64 n] 24)).alloc (.cells #[.int .i64 0] 25)).alloc (.cells #[.slice (some ⟨b, off, none⟩) (d * x) cap] 22)).alloc (.cells #[.int .i64 x] 3)).cell? ⟨w.heap.size + 1, 0, none⟩ = some (.int .i64 0) := by
    refine keep_alloc (keep_alloc ?_ _) _
    have := (cell_made (w.alloc (.cells #[.int .i64 d, .int .i64 x, .slice (some ⟨b, off, none⟩) (d * x) cap, .int .i64 n] 24)) (.int .i64 0) 25).1
    rwa [World.size_alloc] at this
  have f1 : ((((w.alloc (.cells #[.int .i64 d, .int .i64 x, .slice (some ⟨b, off, none⟩) (d * x) cap, .int .i64 n] 24)).alloc (.cells #[.int .i64 0] 25)).alloc (.cells #[.slice (some ⟨b, off, none⟩) (d * x) cap] 22)).alloc (.cells #[.int .i64 x] 3)).frozen? ⟨w.heap.size + 1, 0, none⟩ = false := by
    have h0 := cell_made (w.alloc (.cells #[.int .i64 d, .int .i64 x, .slice (some ⟨b, off, none⟩) (d * x) cap, .int .i64 n] 24)) (.int .i64 0) 25
    rw [World.size_alloc] at h0
    exact frozen_alloc_l _ (cell_alloc_l _ h0.1) (frozen_alloc_l _ h0.1 h0.2)
  have c2 : ((((w.alloc (.cells #[.int .i64 d, .int .i64 x, .slice (some ⟨b, off, none⟩) (d * x) cap, .int .i64 n] 24)).alloc (.cells #[.int .i64 0] 25)).alloc (.cells #[.slice (some ⟨b, off, none⟩) (d * x) cap] 22)).alloc (.cells #[.int .i64 x] 3)).cell? ⟨w.heap.size + 1 + 1, 0, none⟩ = some (.slice (some ⟨b, off, none⟩) (d * x) cap) := by
    refine keep_alloc ?_ _
    have := (cell_made ((w.alloc (.cells #[.int .i64 d, .int .i64 x, .slice (some ⟨b, off, none⟩) (d * x) cap, .int .i64 n] 24)).alloc (.cells #[.int .i64 0] 25)) (.slice (some ⟨b, off, none⟩) (d * x) cap) 22).1
    rw [World.size_alloc, World.size_alloc] at this; exact this
  have c3 : ((((w.alloc (.cells #[.int .i64 d, .int .i64 x, .slice (some ⟨b, off, none⟩) (d * x) cap, .int .i64 n] 24)).alloc (.cells #[.int .i64 0] 25)).alloc (.cells #[.slice (some ⟨b, off, none⟩) (d * x) cap] 22)).alloc (.cells #[.int .i64 x] 3)).cell? ⟨w.heap.size + 1 + 1 + 1, 0, none⟩ = some (.int .i64 x) := by
    have := (cell_made (((w.alloc (.cells #[.int .i64 d, .int .i64 x, .slice (some ⟨b, off, none⟩) (d * x) cap, .int .i64 n] 24)).alloc (.cells #[.int .i64 0] 25)).alloc (.cells #[.slice (some ⟨b, off, none⟩) (d * x) cap] 22)) (.int .i64 x) 3).1
    rw [World.size_alloc, World.size_alloc, World.size_alloc] at this; exact this
  generalize ((((w.alloc (.cells #[.int .i64 d, .int .i64 x, .slice (some ⟨b, off, none⟩) (d * x) cap, .int .i64 n] 24)).alloc (.cells #[.int .i64 0] 25)).alloc (.cells #[.slice (some ⟨b, off, none⟩) (d * x) cap] 22)).alloc (.cells #[.int .i64 x] 3)) = W0 at *
  have hd0 : 0 < d := hd1
  have hrow : ∀ (W : World), Below w.heap.size w W → ∀ i : Nat, i < d → RowK .i64 W (rowV b off x i) ((c.drop (i * x)).take x) := by
    intro W hW i hi
    have hix : i * x + x ≤ d * x := by have : (i + 1) * x ≤ d * x := Nat.mul_le_mul_right _ hi; rw [Nat.succ_mul] at this; exact this
    have hl : ((c.drop (i * x)).take x).length = x := by simp; omega
    refine ⟨_, x, by rw [hl], ⟨by rw [hl]; exact Nat.le_refl _, by unfold maxLen; omega, fun h => by cases h⟩, .inr ⟨b, off + i * x, rfl, Nat.lt_of_lt_of_le hbs hW.size, fun j hj => ?_⟩⟩
    rw [hl] at hj
    have := (hW.cell (p := ⟨b, off + (i * x + j), none⟩) hbs).trans (hcell (i * x + j) (by omega))
    rw [Nat.add_assoc, this]
    simp [List.getD_eq_getElem?_getD, hj, List.getElem?_drop]
  have hbad : ∀ i : Nat, i < d → P.addB ((c.drop (i * x)).take x) n = false → P.chkS ⟨d, x, c, n⟩ = 4 := fun i hi h => P.chkS_no fun hg => by
    have h2 := (P.parts_of hg).2.2.2.2 i (by show (i : Int) < (d : Int); omega)
    simp only [Int.toNat_natCast] at h2
    rw [h] at h2; cases h2
  have hgood : (∀ i : Nat, i < d → P.addB ((c.drop (i * x)).take x) n = true) → P.chkS ⟨d, x, c, n⟩ = 0 := fun h => P.chkS_ok (P.good_of har (by show (c.length : Int) = (d : Int) * (x : Int); rw [hlen]; simp) h0 h1 (fun i hi => by
    have hi' : i < d := by have h : (i : Int) < (d : Int) := hi; omega
    have := h i hi'
    simpa using this))
  have HRow := hide hrow
  have HBad := hide hbad
  have HGood := hide hgood
  have HAdd := hide (fun v l w hr => addUp_any v l n w hr (by omega) (by omega))
  clear hrow hbad hgood HA
  refine wpIn_rangeFunc_ownF rfl (by decide) (gf := 36) (lb := #[.pointer (some ⟨w.heap.size + 1 + 1, 0, none⟩), .pointer (some ⟨w.heap.size + 1 + 1 + 1, 0, none⟩)]) rfl trivial (enters_of Try.func36 (by kernel_rfl) rfl)
    (chunk_stops (3 - 1) (by decide) (w.heap.size + 1 + 1) (w.heap.size + 1 + 1 + 1) W0.heap.size b off cap d x hd0 hd8 hx1 hx2 hcap hcm W0 (by omega) (by omega) (Nat.le_refl _) c2 c3) belowK_t (belowK_b (Nat.le_refl _)) (Below.refl _ _) (fun _ => rfl)
    (fun pre W => ((∀ y ∈ pre, P.addB ((c.drop (y.1 * x)).take x) n = true) ∧ W.cell? ⟨w.heap.size, 3, none⟩ = some (.int .i64 n) ∧ W.cell? ⟨w.heap.size + 1, 0, none⟩ = some (.int .i64 0) ∧ W.frozen? ⟨w.heap.size + 1, 0, none⟩ = false) ∧ Below w.heap.size w W)
    (fun cd pre W => (cd = .ret ∧ P.chkS ⟨d, x, c, n⟩ = 4 ∧ W.cell? ⟨w.heap.size + 1, 0, none⟩ = some (.int .i64 4)) ∧ Below w.heap.size w W)
    (OwnFrom.and (Own.from (fun s A B row hs hg hr => ⟨hs.1, cell_kept hs.2.1 hg hr, cell_kept hs.2.2.1 hg hr, (frozen_kept hs.2.2.1 hg hr).trans hs.2.2.2⟩) _) (ownFrom_below (Nat.le_refl _) (by omega)))
    (fun cd => OwnFrom.and (Own.from (fun s A B row hs hg hr => ⟨hs.1, hs.2.1, cell_kept hs.2.2 hg hr⟩) _) (ownFrom_below (Nat.le_refl _) (by omega)))
    ⟨⟨by simp, c0, c1, f1⟩, hB0⟩
    (fun y => { tmps := #[Value.agg #[Value.int IntKind.i64 ↑d, Value.int IntKind.i64 ↑x, Value.slice (some { block := b, off := off }) (d * x) cap, Value.int IntKind.i64 n],
          Value.pointer (some { block := w.heap.size, off := 0 }),
          Value.pointer (some { block := w.heap.size + 1, off := 0 }), rowV b off x y.1,
          Value.pointer (some { block := w.heap.size, off := 0 }), Value.int IntKind.i64 ↑d,
          Value.pointer (some { block := w.heap.size, off := 1 }), Value.int IntKind.i64 ↑x, Value.bool true,
          Value.bool false, Value.bool false, Value.pointer (some { block := w.heap.size, off := 2 }),
          Value.slice (some { block := b, off := off }) (d * x) cap, Value.int IntKind.i64 (↑d * ↑x),
          Value.pointer (some { block := w.heap.size, off := 0 }), Value.int IntKind.i64 ↑d,
          Value.pointer (some { block := w.heap.size, off := 1 }), Value.int IntKind.i64 ↑x,
          Value.int IntKind.i64 (↑d * ↑x), Value.bool false, Value.bool false, Value.bool false,
          Value.pointer (some { block := w.heap.size, off := 3 }), Value.int IntKind.i64 n, Value.bool false,
          Value.bool false, Value.bool false, Value.pointer (some { block := w.heap.size, off := 3 }),
          Value.int IntKind.i64 n, Value.bool false, Value.bool false,
          Value.pointer (some { block := w.heap.size, off := 2 }),
          Value.slice (some { block := b, off := off }) (d * x) cap,
          Value.pointer (some { block := w.heap.size, off := 1 }), Value.int IntKind.i64 ↑x,
          Value.func (Fn.func 36) #[]
            #[Value.pointer (some { block := w.heap.size + 1 + 1, off := 0 }),
              Value.pointer (some { block := w.heap.size + 1 + 1 + 1, off := 0 })],
          rowV b off x y.1, undef, undef, undef, undef, undef], defers := [] }) ?assign ?body ?done ?stop
  case assign =>
    intro l y W K hK
    gi_wp2
    exact hK
  case body =>
    rintro l pre y W ⟨⟨hp, hc0, hc1, hf1⟩, hB⟩ _
    have HP := hide hp
    have HAd := hide (HAdd.out _ _ W (HRow.out W hB y.1 y.2))
    have HBd := hide (HBad.out y.1 y.2)
    have hC0 := hide hc0
    have hC1 := hide hc1
    have hF1 := hide hf1
    have HB := hide hB
    clear hp hB
    generalize hz : P.addB ((c.drop (y.1 * x)).take x) n = z at HAd HBd
    have HZ := hide hz
    clear hz
    cases z with
    | true =>
      gi_wp2_with (refine ⟨trivial, ?_⟩; gi_at_call 29; refine (CallsIn.inRound l (callsIn_wide.2 HAd.out)).mono ?_; rintro e w1 ⟨rfl, rfl⟩)
      exact ⟨KeepsOthers.refl _, Below.refl _ _, ⟨fun u hu => (List.mem_append.1 hu).elim (HP.out u) (fun e => by simp at e; subst e; exact HZ.out), hC0.out, hC1.out, hF1.out⟩, HB.out⟩
    | false =>
      have HC4 := hide (HBd.out rfl)
      gi_wp2_with (refine ⟨trivial, ?_⟩; gi_at_call 29; refine (CallsIn.inRound l (callsIn_wide.2 HAd.out)).mono ?_; rintro e w1 ⟨rfl, rfl⟩)
      exact ⟨KeepsOthers.setCell _ _ _, ⟨rfl, HC4.out, World.cell?_setCell_same' _ _ _ (by rw [hC1.out]; rfl)⟩, HB.out.setCell (p := ⟨w.heap.size + 1, 0, none⟩) (by simp) _⟩
  case done =>
    rintro D ys W hD rfl ⟨⟨hall, _, hcr, hfr⟩, hB⟩ hK
    have HZ := hide (HGood.out fun i hi => by have := hall (num d hd0 i) (by unfold upto; exact List.mem_map.2 ⟨i, List.mem_range.2 hi, rfl⟩); rw [num_val d hd0 i hi] at this; exact this)
    clear hall
    gi_wp2
    have hK' := (KeepsOthers.setCell W ⟨w.heap.size + 1, 0, none⟩ (.int .i64 0)).same D _ hK rfl
    refine ⟨by simp, .inl ⟨_, _, rfl, run_takeDeferred hK', ?_⟩⟩
    have hc5 := cell_kept (World.cell?_setCell_same' W ⟨w.heap.size + 1, 0, none⟩ (.int .i64 0) (by rw [hcr]; rfl)) (grownBy_putObj' _ D (.deferred none)) (fun r e => by cases e; exact ⟨_, hK', rfl⟩)
    refine ⟨.int .i64 0, ?_, by rw [HZ.out], (hB.setCell (p := ⟨w.heap.size + 1, 0, none⟩) (by simp) _).trans (belowK_b (w := w) (Nat.le_refl _) _ D _ _ (by omega) hK' rfl rfl)⟩
    simp [results, Try.results14, go_sem, hc5]
  case stop =>
    rintro D cd pre W hD hpre ⟨⟨rfl, hin, hcr⟩, hB⟩ hK
    gi_wp2
    refine ⟨by simp, .inl ⟨_, _, rfl, run_takeDeferred hK, ?_⟩⟩
    have hc5 := cell_kept hcr (grownBy_putObj' _ D (.deferred none)) (fun r e => by cases e; exact ⟨_, hK, rfl⟩)
    refine ⟨.int .i64 4, ?_, by rw [hin], hB.trans (belowK_b (w := w) (Nat.le_refl _) W D _ _ (by omega) hK rfl rfl)⟩
    simp [results, Try.results14, go_sem, hc5]
theorem Check_any (cv : Value) (s : P.Rw) (w : World) (hr : RowK .i64 w cv s.c) (hi : RwI s) :
    Calls Try.prog 14 #[aggS cv s] w fun e w' => e = .returned (.int .i64 (P.chkS s)) ∧ Below w.heap.size w w' := by
  have bad : (P.arB s.d s.w = false ∨ (P.arB s.d s.w = true ∧ (s.c.length : Int) ≠ s.d * s.w) ∨ (P.arB s.d s.w = true ∧ (s.c.length : Int) = s.d * s.w ∧ s.n < 0) ∨ (P.arB s.d s.w = true ∧ (s.c.length : Int) = s.d * s.w ∧ 0 ≤ s.n ∧ 1152921504606846976 < s.n)) → Calls Try.prog 14 #[aggS cv s] w fun e w' => e = .returned (.int .i64 (P.chkS s)) ∧ Below w.heap.size w w' := fun h => by
    have hno : ¬ P.GoodR s := fun hg => by
      obtain ⟨g1, g2, g3, g4, _⟩ := P.parts_of hg
      rcases h with h | ⟨_, h⟩ | ⟨_, _, h⟩ | ⟨_, _, _, h⟩
      · rw [h] at g1; cases g1
      · exact h g2
      · omega
      · omega
    rw [P.chkS_no hno]
    exact Check_early cv s w hr hi h
  cases ha : P.arB s.d s.w with
  | false => exact bad (.inl ha)
  | true =>
    by_cases hl : (s.c.length : Int) = s.d * s.w
    · by_cases h0 : s.n < 0
      · exact bad (.inr (.inr (.inl ⟨ha, hl, h0⟩)))
      · by_cases h1 : 1152921504606846976 < s.n
        · exact bad (.inr (.inr (.inr ⟨ha, hl, by omega, h1⟩)))
        · clear bad hi
          unfold P.arB at ha
          simp at ha
          obtain ⟨d, x, c, n⟩ := s
          simp only at *
          obtain ⟨D, rfl⟩ : ∃ D : Nat, d = D := ⟨d.toNat, by omega⟩
          obtain ⟨X, rfl⟩ : ∃ X : Nat, x = X := ⟨x.toNat, by omega⟩
          have hlen : c.length = D * X := by exact_mod_cast hl
          have hpos : 0 < D * X := Nat.mul_pos (by omega) (by omega)
          obtain ⟨a, cap, rfl, ⟨hc1, hc2, _⟩, hcase⟩ := hr
          rcases hcase with h | ⟨b, off, rfl, hbs, hcell⟩
          · rw [h] at hlen; simp at hlen; omega
          · have := Check_rows b off cap D X c n w (by omega) (by omega) (by omega) (by omega) hlen (by omega) (by omega) (by omega) hc2 hbs (fun j hj => hcell j (by omega))
            rw [← hlen] at this
            exact this
    · exact bad (.inr (.inl ⟨ha, hl⟩))
end Go.Proofs.Ytenfpkokogfdaaa
