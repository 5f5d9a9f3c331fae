/- What add does. -/
import Derived.Test.YtlndbmenaaiogaaRankI
namespace Go.Proofs.Ytlndbmenaaiogaa
open Go.RowKit
set_option linter.unusedVariables false
theorem insert_any (base : Nat) (v : Value) (l : List Int) (i : Nat) (x : Int) (w : World) (ho : OwnI w base v l) (hl : l.length ≤ 64) (hi : i ≤ l.length) (hb : base ≤ w.heap.size) :
    Calls Try.prog 47 #[v, .int .i64 i, .slice (some ⟨w.heap.size, 0, none⟩) 1 1] (w.alloc (.cells #[.int .i64 x] 2)) (InsPost w base v l i x) := by
  rcases Nat.lt_or_ge i l.length with h | h
  · rcases ho.2 with ⟨rfl, h0⟩ | ⟨g, cap, cur, rfl, hbg, hg, hn, hm, hs, ht⟩
    · omega
    · rcases Nat.lt_or_ge l.length cap with hc | hc
      · exact ins_room g base l.length cap i l x w ho rfl hl h (by omega) hb
      · obtain rfl : cap = l.length := by omega
        exact ins_grow g base l.length i l x w ho rfl hl h hb
  · obtain rfl : i = l.length := by omega
    exact ins_end base v l x w ho hl hb
theorem search_none (a : Option Addr) (c : Nat) (x : Int) (w : World) : Calls Try.prog 46 #[.slice a 0 c, .int .i64 x] w fun e w' => e = .returned (.tuple #[.int .i64 0, .bool false]) ∧ w' = w := by
  go_enter Try.func46, Try.ntmps46
  go_wp2
  go_loop [7, 8] (fun i j => i = .int .i64 0 ∧ j = .int .i64 0) (fun _ _ => 0)
  case atStart => exact ⟨rfl, rfl⟩
  case round =>
    obtain ⟨rfl, rfl⟩ := hrel
    go_wp2
    go_ret2
    exact ⟨rfl, rfl⟩
theorem search_any (base : Nat) (v : Value) (l : List Int) (x : Int) (w : World) (ho : OwnI w base v l) (hs : P.Inc l) (hl : l.length ≤ 64) :
    Calls Try.prog 46 #[v, .int .i64 x] w fun e w' => ∃ b, e = .returned (.tuple #[.int .i64 (l.countP (· < x) : Nat), .bool b]) ∧ ∃ q, w' = w.drewN q := by
  rcases ho.row with ⟨a, cap, rfl, _, hc⟩
  rcases hc with h | ⟨b, off, rfl, hbs, hcell⟩
  · subst h
    refine (search_none a cap x w).mono ?_
    rintro e w' ⟨rfl, rfl⟩
    exact ⟨false, rfl, 0, rfl⟩
  · refine (Try.search_some b off l.length cap l x w (Nat.le_refl _) (by omega) (fun j hj => hcell j hj) (by rw [List.take_length]; exact hs)).mono ?_
    rintro e w' ⟨rfl, q, rfl⟩
    rw [List.take_length]
    exact ⟨_, rfl, q, rfl⟩
/-- A number has come into the tail. -/
theorem OwnV.insTail {w w3 : World} {base : Nat} {tv lv tv2 : Value} {s : P.Rk} {t' : List Int} (h : OwnV w base tv lv s) (own : OwnI w3 base tv2 t') (hg : w.grownBy w3 tv.ownBlock) (hat : tv2.ownBlock = tv.ownBlock ∨ ∃ k, tv2.ownBlock = some k ∧ w.heap.size ≤ k) :
    OwnV w3 base tv2 lv ⟨s.k, t', s.lv, s.n, s.sl⟩ := by
  obtain ⟨h1, vs, h2, h3, h4, h5⟩ := h
  have hd : (2 : TypeId) ≠ 22 := by decide
  refine ⟨own, vs, h2, World.ownsRow.kept h3 hg (own_two h1 h3 hd), fun j u m hu hm => OwnK.keep (h4 j u m hu hm) hg (h5 u (List.mem_of_getElem? hu)).or, fun u hu => ?_⟩
  rcases hat with hat | ⟨k, hk, hkw⟩
  · intro b hb1 hb2
    exact h5 u hu b hb1 (by rw [← hat]; exact hb2)
  · intro b hb1 hb2
    rw [hk] at hb2
    obtain ⟨j, hj, rfl⟩ := List.mem_iff_getElem.1 hu
    have h6 := (h4 j _ _ (List.getElem?_eq_getElem hj) (List.getElem?_eq_getElem (show j < s.lv.length by omega))).lt b hb1
    simp at hb2
    omega
theorem OwnV.dropTail {w : World} {base : Nat} {tv lv : Value} {s : P.Rk} (h : OwnV w base tv lv s) : OwnV w base (.slice none 0 0) lv ⟨s.k, [], s.lv, s.n, s.sl⟩ := by
  obtain ⟨h1, vs, h2, h3, h4, h5⟩ := h
  exact ⟨OwnK.nil _ _ _ _, vs, h2, h3, h4, fun u hu b hb1 hb2 => by simp [Value.ownBlock] at hb2⟩
theorem OwnV.drewN {w : World} {base : Nat} {tv lv : Value} {s : P.Rk} (h : OwnV w base tv lv s) (q : Nat) : OwnV (w.drewN q) base tv lv s := ⟨h.tail, h.rows⟩
set_option maxRecDepth 100000 in
set_option maxHeartbeats 2000000 in
theorem add_any (g base : Nat) (tv lvv : Value) (s : P.Rk) (v : Int) (w : World) (hg : base ≤ g) (hx : BoxR w g tv lvv s) (ho : OwnV w base tv lvv s) (hm : P.Mid s)
    (h1 : s.n + 1 ≤ 4611686018427387904) (h2 : (P.adU s v).sl ≤ 4611686018427387904) (h5 : s.lv.length ≤ 22) (h7 : base ≤ w.heap.size) :
    Calls Try.prog 28 #[.pointer (some ⟨g, 0, none⟩), .int .i64 v] w fun e w' => e = .returned (.tuple #[]) ∧ ∃ tv' lv', BoxR w' g tv' lv' (P.adU s v) ∧ OwnV w' base tv' lv' (P.adU s v) ∧ Below base w w' ∧ base ≤ w'.heap.size := by
  have ht64 : s.tail.length ≤ 64 := by have := hm.room; have := hm.k64; omega
  have ht64' : (s.tail.length : Int) + 1 ≤ 64 := by have := hm.room; have := hm.k64; omega
  have HS := hide (search_any base tv s.tail v w ho.tail hm.inc ht64)
  have hcle : s.tail.countP (· < v) ≤ s.tail.length := List.countP_le_length
  have hins := P.ins_at hm.inc v
  obtain ⟨x0, x1, x2, x3, x4⟩ := hx.cells
  have u1 := hx.unfrozen 1
  have hn0 : 0 ≤ s.n := by rw [hm.n]; omega
  have hneI := hx.neI ho.tail
  have HI := hide (fun wx (hbx : OwnI wx base tv s.tail) (hsz : base ≤ wx.heap.size) => insert_any base tv s.tail (s.tail.countP (· < v)) v wx hbx ht64 hcle hsz)
  generalize s.tail.countP (· < v) = i at *
  have had : P.adU s v = if ((P.ins v s.tail).length : Int) = s.k then ⟨s.k, [], (P.up s.lv (P.ins v s.tail)).1, s.n + 1, s.sl + (P.up s.lv (P.ins v s.tail)).2⟩ else ⟨s.k, P.ins v s.tail, s.lv, s.n + 1, s.sl⟩ := rfl
  have hil := P.ins_len v s.tail
  generalize P.adU s v = R at *
  generalize P.ins v s.tail = t' at *
  have HR := hide had
  clear had
  have ht'64 : t'.length ≤ 64 := by omega
  have hlv64 : ∀ m ∈ s.lv, m.length ≤ 64 := fun m hh => by have := (hm.lv m hh).2; have := hm.k64; omega
  have hsl0 := hm.sl
  have HX := hide hx
  have HO := hide ho
  have HIn := hide hins
  have HLv := hide hlv64
  clear hx ho hm hins hcle hil hlv64
  go_enter Try.func28, Try.ntmps28
  go_wp2_with (first
    | (go_at_call 46; go_must (refine HS.out.mono ?_); rintro e w1 ⟨bb, rfl, q, rfl⟩)
    | (go_at_call 47; go_must (refine (HI.out (w.drewN q) HO.out.tail h7).mono ?_); rintro e w3 ⟨tv2, rfl, own3, hg3, hat3⟩; rw [HIn.out] at own3; obtain ⟨a3, c3, rfl⟩ := OwnK.shape own3; have b3 := BoxR.grown (w := w.drewN q) HX.out hg3 hneI; have z1 := b3.cells.2.1; have z3 := b3.cells.2.2.2.1; have v1 := b3.unfrozen 1; have v3 := b3.unfrozen 3))
  have X1 : BoxR ((w3.setCell ⟨g, 1, none⟩ (.slice a3 t'.length c3)).setCell ⟨g, 3, none⟩ (.int .i64 (s.n + 1))) g (.slice a3 t'.length c3) lvv ⟨s.k, t', s.lv, s.n + 1, s.sl⟩ := (b3.tail _ t').num (s.n + 1)
  have X2 : OwnV ((w3.setCell ⟨g, 1, none⟩ (.slice a3 t'.length c3)).setCell ⟨g, 3, none⟩ (.int .i64 (s.n + 1))) base (.slice a3 t'.length c3) lvv ⟨s.k, t', s.lv, s.n, s.sl⟩ := ((OwnV.insTail (HO.out.drewN q) own3 hg3 hat3).box b3 1 _).box (b3.tail (.slice a3 t'.length c3) t') 3 _
  have X3 : Below base w ((w3.setCell ⟨g, 1, none⟩ (.slice a3 t'.length c3)).setCell ⟨g, 3, none⟩ (.int .i64 (s.n + 1))) := (((below_dn (Below.refl base w) q).grown hg3 h7 (fun k hk => (World.ownsRow.lt HO.out.tail k hk).1)).setCell hg _).setCell hg _
  have X4 : base ≤ ((w3.setCell ⟨g, 1, none⟩ (.slice a3 t'.length c3)).setCell ⟨g, 3, none⟩ (.int .i64 (s.n + 1))).heap.size := Nat.le_trans h7 X3.size
  clear b3 z1 z3 v1 v3 own3 hg3 hat3 x0 x1 x2 x3 x4 u1
  generalize ((w3.setCell ⟨g, 1, none⟩ (.slice a3 t'.length c3)).setCell ⟨g, 3, none⟩ (.int .i64 (s.n + 1))) = X at *
  obtain ⟨x0, x1, x2, x3, x4⟩ := X1.cells
  have HX1 := hide X1
  have HX2 := hide X2
  clear X1 X2 HX HO HS HI HIn
  by_cases hk : (t'.length : Int) = s.k
  · have hkb : ((t'.length : Int) == s.k) = true := by rw [beq_iff_eq]; exact hk
    have HRk := HR.out
    rw [if_pos hk] at HRk
    have HRR := hide HRk
    rw [HRk] at h2
    clear HRk HR
    have HX4 := hide X4
    have u1 := HX1.out.unfrozen 1
    clear hk
    go_quiet (fail)
    go_wp2_with fail
    have Y1 := BoxR.tail (w := X.drewN nq) HX1.out (.slice none 0 0) []
    have Y2 : OwnV ((X.drewN nq).setCell ⟨g, 1, none⟩ (.slice none 0 0)) base (.slice none 0 0) lvv ⟨s.k, [], s.lv, s.n + 1, s.sl⟩ := ((HX2.out.drewN nq).dropTail.box (w := X.drewN nq) HX1.out 1 _).same rfl rfl
    have Y3 : OwnI ((X.drewN nq).setCell ⟨g, 1, none⟩ (.slice none 0 0)) base (.slice a3 t'.length c3) t' := OwnI.box (w := X.drewN nq) HX2.out.tail HX1.out 1 _
    have HC := carry_any g base (.slice none 0 0) lvv (.slice a3 t'.length c3) ⟨s.k, [], s.lv, s.n + 1, s.sl⟩ t' 0 ((X.drewN nq).setCell ⟨g, 1, none⟩ (.slice none 0 0)) hg Y1 Y2 Y3 (fun b hb1 hb2 => by simp [Value.ownBlock] at hb2) hsl0 h2 ht'64 HLv.out h5 (by omega) (by simp; exact HX4.out)
    refine HC.mono ?_
    rintro e w5 ⟨rfl, lv', hb5, ho5, hbe5, hs5⟩
    go_wp2
    go_end0
    exact ⟨rfl, _, _, by rw [HRR.out]; exact hb5, by rw [HRR.out]; exact ho5, ((below_dn X3 nq).setCell hg _).trans hbe5, hs5⟩
  · have hkb : ((t'.length : Int) == s.k) = false := by rw [beq_eq_false_iff_ne]; exact hk
    have HRk := HR.out
    rw [if_neg hk] at HRk
    have HRR := hide HRk
    clear HRk HR hk
    go_quiet (fail)
    go_wp2
    go_end0
    exact ⟨rfl, _, _, by rw [HRR.out]; exact HX1.out, by rw [HRR.out]; exact (HX2.out.drewN nq).same rfl rfl, below_dn X3 nq, X4⟩
end Go.Proofs.Ytlndbmenaaiogaa
