/- Several texts in one. -/
import Derived.Test.YtpinhcbkfjoopaaKitLeAll
import Derived.Lib.AppendZeros
import Derived.Deep.OwnRows
/- What slices.Grow and slices.Concat answer of rows of numbers below 2^64 (out of RankG). -/
namespace Go.Proofs.Ytpinhcbkfjoopaa
open Go.RowKit
set_option linter.unusedVariables false
/-- A row of rows that is read. -/
def RowsU (w : World) (v : Value) (L : List (List Int)) : Prop :=
  ∃ a cap, v = .slice a L.length cap ∧ (L.length ≤ cap ∧ cap ≤ maxLen) ∧ (L = [] ∨ ∃ b off, a = some ⟨b, off, none⟩ ∧ b < w.heap.size ∧ ∀ j l, L[j]? = some l → ∃ vj, w.cell? ⟨b, off + j, none⟩ = some vj ∧ RowK .u64 w vj l)
/-- Two of them in a new block. -/
theorem rows_twoU (w : World) (v1 v2 : Value) (l1 l2 : List Int) (t : TypeId) (h1 : RowK .u64 w v1 l1) (h2 : RowK .u64 w v2 l2) : RowsU (w.alloc (.cells #[v1, v2] t)) (.slice (some ⟨w.heap.size, 0, none⟩) 2 2) [l1, l2] := by
  have hb := (Below.refl w.heap.size w).alloc (Nat.le_refl _) (.cells #[v1, v2] t)
  refine ⟨_, 2, rfl, ⟨by simp, by decide⟩, .inr ⟨w.heap.size, 0, rfl, by simp, fun j x hx => ?_⟩⟩
  match j, hx with
  | 0, hx => simp at hx; subst hx; exact ⟨v1, by simp, h1.below hb (Nat.le_refl _)⟩
  | 1, hx => simp at hx; subst hx; exact ⟨v2, by simp, h2.below hb (Nat.le_refl _)⟩
/-- A row of the call's own that has room for n more. -/
def Room (w : World) (base : Nat) (v : Value) (l : List Int) (n : Nat) : Prop := OwnU w base v l ∧ ∃ a cap, v = .slice a l.length cap ∧ l.length + n ≤ cap
theorem size_zeros (n : Nat) : (Builtin.zeroCells (Value.int .u64 0).cells n).size = n := by rw [size_zeroCells]; simp [Value.cells]
set_option maxRecDepth 100000 in
theorem grow_pos (n : Nat) (w : World) (h0 : 0 < n) (h : n * 8 ≤ 281474976710656) :
    Calls Try.prog 56 #[.slice none 0 0, .int .i64 n] w fun e w' => ∃ v, e = .returned v ∧ Room w' w.heap.size v [] n ∧ Below w.heap.size w w' := by
  obtain ⟨i0, hi, hz0, hz1, hz2⟩ := info_parts Try.info31
  have hr := Lib.run_append_nil_zeros (P := Try.prog) w 22 3 22 31 i0 (.int .u64 0) .i64 .i64 Try.underlying22 Try.underlying3 hi hz0 n h0 (by omega) (by omega) (by rw [hz2]; exact h)
  have hge := grownCap_ge w n 0 31
  have hle := grownCap_le_maxLen w n 0 31 (by unfold maxLen; omega)
  have hb : Below w.heap.size w (w.drew.alloc (.cells (Builtin.zeroCells (Value.int .u64 0).cells n ++ Builtin.zeroCells (Value.int .u64 0).cells (grownCap w n 0 31 - n)) 31)) := (show Below w.heap.size w w.drew from ⟨rfl, rfl, rfl, Nat.le_refl _, fun _ _ => rfl⟩).alloc (Nat.le_refl _) _
  have hown : Room (w.drew.alloc (.cells (Builtin.zeroCells (Value.int .u64 0).cells n ++ Builtin.zeroCells (Value.int .u64 0).cells (grownCap w n 0 31 - n)) 31)) w.heap.size (.slice (some ⟨w.heap.size, 0, none⟩) 0 (grownCap w n 0 31)) [] n := by
    refine ⟨⟨rfl, .inr ⟨w.heap.size, _, _, rfl, Nat.le_refl _, heap_alloc_new w.drew _, Nat.zero_le _, hle, ?_, by simp⟩⟩, _, _, rfl, by simpa using hge⟩
    rw [Array.size_append, size_zeros, size_zeros]; omega
  have HO := hide hown
  have HB := hide hb
  have n0 : (0 : Int) < (n : Int) := by omega
  have n1 : (n : Int) ≤ 281474976710656 := by omega
  clear hown hb hi hz0 hz1 hz2
  generalize (w.drew.alloc (.cells (Builtin.zeroCells (Value.int .u64 0).cells n ++ Builtin.zeroCells (Value.int .u64 0).cells (grownCap w n 0 31 - n)) 31)) = W at *
  generalize grownCap w n 0 31 = c at *
  have hc0 : 0 ≤ c := Nat.zero_le _
  generalize (n : Int) = u at *
  go_enter Try.func56, Try.ntmps56
  go_wp2_with (at_builtin; go_must (refine Lib.wpList_append_run _ rfl _ _ _ _ rfl _ _ rfl rfl _ _ hr ?_))
  go_ret
  exact ⟨_, rfl, HO.out, HB.out⟩
theorem grow_zero (w : World) :
    Calls Try.prog 56 #[.slice none 0 0, .int .i64 0] w fun e w' => ∃ v, e = .returned v ∧ Room w' w.heap.size v [] 0 ∧ Below w.heap.size w w' := by
  go_enter Try.func56, Try.ntmps56
  go_wp2
  go_ret
  exact ⟨_, rfl, ⟨OwnK.nil _ _ _ _, none, 0, rfl, by simp⟩, Below.refl _ _⟩
theorem grow_any (n : Nat) (w : World) (h : n * 8 ≤ 281474976710656) :
    Calls Try.prog 56 #[.slice none 0 0, .int .i64 n] w fun e w' => ∃ v, e = .returned v ∧ Room w' w.heap.size v [] n ∧ Below w.heap.size w w' := by
  rcases Nat.eq_zero_or_pos n with h0 | h0
  · subst h0; exact grow_zero w
  · exact grow_pos n w h0 h
/-- 'append(b, x...)' where there is room: what the operation does. -/
theorem run_room (w : World) (base : Nat) (v vx : Value) (acc l : List Int) (n : Nat) (ty : TypeId) (hown : Room w base v acc n) (hrow : RowK .u64 w vx l) (hn : l.length ≤ n) :
    ∃ v' w', (Builtin.append_ #[22, 22] ty #[v, vx]).run Try.prog w = .ok v' w' ∧ Room w' base v' (acc ++ l) (n - l.length) ∧ w.grownBy w' v.ownBlock := by
  obtain ⟨i0, hi, hz0, hz1, hz2⟩ := info_parts Try.info31
  obtain ⟨ho, a, cap, hv, hcap⟩ := hown
  have hlen := ho.1
  obtain ⟨ao, cx, rfl, ⟨hlc, hcm, hnn⟩, hcase⟩ := hrow
  by_cases h0 : l = []
  · subst h0
    subst hv
    refine ⟨_, w, ?_, ⟨by rw [List.append_nil]; exact ho, a, cap, by simp, by simpa using hcap⟩, ⟨rfl, rfl, rfl, Nat.le_refl _, fun _ _ _ => rfl⟩⟩
    have hle : acc.length ≤ cap := by omega
    cases ao <;> cases a <;> simp [Builtin.append_, run_underlying Try.underlying22, sizeOf, typeInfo, hi, Builtin.lenOf, hle, Builtin.firstCells, loadCells, loadCellsFrom, storeCells]
  · rcases hcase with h | ⟨b, off, rfl, hbs, hcell⟩
    · exact absurd h h0
    have hpos : 0 < l.length := List.length_pos_iff.2 h0
    rcases ho.2 with ⟨hnil, hz⟩ | ⟨g, cap', cur, hv2, hbg, hg, hnc, hcm', hcs, htake⟩
    · rw [hnil] at hv
      simp only [Value.slice.injEq] at hv
      obtain ⟨_, _, rfl⟩ := hv
      omega
    · rw [hv2] at hv
      simp only [Value.slice.injEq] at hv
      obtain ⟨rfl, _, rfl⟩ := hv
      subst hv2
      have hroom : acc.length + l.length ≤ cap' := by omega
      have hnews : ∀ j u, (l.map (Value.int .u64))[j]? = some u → w.cell? ((⟨b, off, none⟩ : Addr).add j) = some u := by
        intro j u hj
        have hjl : j < l.length := by
          rcases Nat.lt_or_ge j l.length with h | h
          · exact h
          · rw [List.getElem?_eq_none (by simpa using h)] at hj; cases hj
        have ea : ((⟨b, off, none⟩ : Addr).add j) = ⟨b, off + j, none⟩ := by
          unfold Addr.add; split
          · rename_i h; subst h; rfl
          · rfl
        rw [ea, hcell j hjl]
        simp [List.getElem?_eq_getElem hjl] at hj
        subst hj
        simp [List.getD_eq_getElem?_getD, List.getElem?_eq_getElem hjl]
      have hone : ∀ u ∈ l.map (Value.int .u64), u.oneCell' = true := by intro u hu; obtain ⟨z, _, rfl⟩ := List.mem_map.1 hu; rfl
      have hr := run_append_room (P := Try.prog) w 22 ty 31 i0 Try.underlying22 hi g acc.length cap' cur hg ⟨b, off, none⟩ l.length cx (l.map (Value.int .u64)) (by simp [hz1]) hnews hone hroom (by rw [hz1]; simp; omega)
      have e1 : (acc ++ l).length = acc.length + l.length := by simp
      have e2 : (acc ++ l).map (Value.int .u64) = acc.map (Value.int .u64) ++ l.map (Value.int .u64) := by simp
      refine ⟨_, _, hr, ⟨⟨by simp, .inr ⟨g, cap', _, by rw [e1], hbg, setRow_heap w g cur _ _ _ hg, by rw [e1]; exact hroom, hcm', ?_, ?_⟩⟩, _, _, by rw [e1], by rw [e1]; omega⟩, ⟨rfl, rfl, rfl, by simp, fun k _ hk => setRow_other w g k _ (fun e => hk (by simp [Value.ownBlock, e]))⟩⟩
      · rw [hz1]
        simp only [List.size_toArray, List.length_append, List.length_take, List.length_drop, Array.length_toList, List.length_map]
        omega
      · have htake' : cur.toList.take (acc.length * 1) = acc.map (Value.int .u64) := htake
        rw [hz1, htake', e2]
        have : (acc ++ l).length * 1 = (acc.map (Value.int .u64) ++ l.map (Value.int .u64)).length := by simp
        rw [this]
        exact List.take_left
/-- .. where the walk stands at it. -/
theorem wp_room {ops : Array Oper} {rest : List Oper} {o : Oper} {a : Act} {Q : Exit → Act → World → Prop} (hgd : o.guard = none) (s x : Operand)
    (ho : o.op = .call { callee := .builtin .append, args := #[s, x], argTypes := #[22, 22] })
    (w : World) (base : Nat) (v vx : Value) (acc l : List Int) (n : Nat) (hown : Room w base v acc n) (hrow : RowK .u64 w vx l) (hn : l.length ≤ n) (hs : a.eval s = v) (hx : a.eval x = vx)
    (h : ∀ v' w', Room w' base v' (acc ++ l) (n - l.length) → w.grownBy w' v.ownBlock → wpList Try.prog ops Q rest (a.put o.dst v') w') :
    wpList Try.prog ops Q (o :: rest) a w := by
  obtain ⟨v', w', hr, h1, h2⟩ := run_room w base v vx acc l n o.type hown hrow hn
  exact Lib.wpList_append_run w hgd s x _ _ ho v vx hs hx v' w' hr (h v' w' h1 h2)
theorem Room.shp {w : World} {base : Nat} {v : Value} {l : List Int} {n : Nat} (h : Room w base v l n) : ∃ a cap, v = .slice a l.length cap := OwnK.shape h.1
/-- Rows one behind the other. -/
def flt (ls : List (List Int)) : List Int := ls.flatten
theorem flat_take (ls : List (List Int)) (k : Nat) (x : List Int) (h : ls[k]? = some x) : flt (ls.take (k + 1)) = flt (ls.take k) ++ x := by
  unfold flt; rw [List.take_add_one, h]; simp
theorem flat_le (ls : List (List Int)) (k : Nat) : (flt (ls.take k)).length ≤ (flt ls).length := by
  have e : flt ls = flt (ls.take k) ++ flt (ls.drop k) := by unfold flt; rw [← List.flatten_append, List.take_append_drop]
  rw [e]; simp
theorem flt_nil : flt [] = [] := rfl
/-- How the second loop of Concat stands. -/
def CatAt (w : World) (ls : List (List Int)) (i vl : Value) (wr : World) : Prop :=
  ∃ k : Nat, k ≤ ls.length ∧ i = .int .i64 k ∧ Room wr w.heap.size vl ((flt (ls.take k))) ((flt ls).length - (flt (ls.take k)).length) ∧ Below w.heap.size w wr
set_option maxHeartbeats 1000000 in
theorem concat_any (vv : Value) (ls : List (List Int)) (w : World) (hm1 : ls.length ≤ 1000) (hr : RowsU w vv ls) (hsz : (flt ls).length * 8 ≤ 281474976710656) :
    Calls Try.prog 40 #[vv] w fun e w' => ∃ v, e = .returned v ∧ OwnU w' w.heap.size v (flt ls) ∧ Below w.heap.size w w' := by
  have HG := hide (fun n w' (h : n * 8 ≤ 281474976710656) => grow_any n w' h)
  obtain ⟨av, cap, rfl, ⟨hlc, hmax⟩, hcase⟩ := hr
  unfold maxLen at hmax
  have HS := hide (flat_le ls)
  have hl0 := HS.out 0
  go_enter Try.func40, Try.ntmps40
  go_wp2
  go_loop [11, 3] (fun i s => ∃ k : Nat, k ≤ ls.length ∧ i = .int .i64 k ∧ s = .int .i64 ((flt (ls.take k)).length : Int)) (fun i _ => ls.length - (intOf i).toNat)
  case atStart => exact ⟨0, by omega, rfl, by simp [flt_nil]⟩
  case round =>
    obtain ⟨k, hk, rfl, rfl⟩ := hrel
    have hc1 := HS.out k
    have hc2 := HS.out (k + 1)
    by_cases hlt : k < ls.length
    · rcases hcase with h | ⟨b, off, rfl, hbs, hcell⟩
      · rw [h] at hlt; simp at hlt
      obtain ⟨x, hx⟩ : ∃ x, ls[k]? = some x := ⟨_, List.getElem?_eq_getElem hlt⟩
      obtain ⟨vj, g0, rx⟩ := hcell k x hx
      obtain ⟨ax, cx, hvx, hrest⟩ := rx
      rw [hvx] at g0
      have e1 := flat_take ls k x hx
      have e2 : (flt (ls.take (k + 1))).length = (flt (ls.take k)).length + x.length := by rw [e1]; simp
      have HE := hide e2
      have e3 : (flt (ls.take k)).length + x.length ≤ (flt ls).length := by omega
      generalize (flt (ls.take k)).length = c at *
      generalize x.length = y at *
      generalize (flt ls).length = z at *
      clear hx hrest hvx e1 e2 hcell
      have j0 : (0 : Int) ≤ (k : Int) := by omega
      have j1 : (k : Int) < (ls.length : Int) := by omega
      have j2 : ((c : Int) + (y : Int)) ≤ 281474976710656 := by omega
      have j3 : (0 : Int) ≤ ((c : Int) + (y : Int)) := by omega
      go_wp2
      go_round
      case rel => exact ⟨k + 1, by omega, by go_num, by rw [HE.out]; simp⟩
      case measure => simp [intOf]; omega
    · obtain rfl : k = ls.length := by omega
      rw [List.take_length]
      have hd : decide ((ls.length : Int) < (ls.length : Int)) = false := by simp
      clear hc1 hc2 hl0
      go_wp2_with (go_at_call 56; go_must (refine (HG.out _ _ hsz).mono ?_); rintro e w1 ⟨v, rfl, hroom, hb1⟩)
      obtain ⟨av2, cv, hv⟩ : ∃ a cap, v = .slice a 0 cap := hroom.shp
      rw [hv] at hroom ⊢
      clear HG hv
      go_wp2
      go_loopw [27, 6] (fun i vl wr => CatAt w ls i vl wr) (fun i _ _ => ls.length - (intOf i).toNat)
      case atStart => exact ⟨0, by omega, rfl, by simpa [flt_nil] using hroom, hb1⟩
      case round =>
        obtain ⟨k, hk, rfl, hroom2, hb2⟩ := hrel
        clear hroom hb1
        by_cases hlt : k < ls.length
        · rcases hcase with h | ⟨b, off, rfl, hbs, hcell⟩
          · rw [h] at hlt; simp at hlt
          obtain ⟨x, hx⟩ : ∃ x, ls[k]? = some x := ⟨_, List.getElem?_eq_getElem hlt⟩
          obtain ⟨vj, g00, rx0⟩ := hcell k x hx
          have g0 := (hb2.cell (p := ⟨b, off + k, none⟩) hbs).trans g00
          have rx := rx0.below hb2 (Nat.le_refl _)
          have e1 := flat_take ls k x hx
          have e3 := HS.out (k + 1)
          have e2 : (flt (ls.take (k + 1))).length = (flt (ls.take k)).length + x.length := by rw [e1]; simp
          have HE := hide e1
          have hle : x.length ≤ (flt ls).length - (flt (ls.take k)).length := by omega
          have HL := hide (show (flt ls).length - (flt (ls.take k)).length - x.length = (flt ls).length - (flt (ls.take (k + 1))).length by omega)
          have HT := hide (fun j hj => (hroom2.1.lt j hj).1)
          have HBS := hide hb2.size
          generalize (flt ls).length - (flt (ls.take k)).length = n at *
          obtain ⟨ax, cx, hvx⟩ : ∃ ax cx, vj = .slice ax x.length cx := by obtain ⟨ax, cx, h, _⟩ := rx; exact ⟨ax, cx, h⟩
          subst hvx
          clear hx e1 e2 e3 hcell g00 rx0
          have j0 : (0 : Int) ≤ (k : Int) := by omega
          have j1 : (k : Int) < (ls.length : Int) := by omega
          go_wp2_with (at_builtin; go_must (refine wp_room rfl _ _ rfl _ w.heap.size _ _ (flt (ls.take k)) x n hroom2 rx hle rfl rfl ?_); intro v' w3 hroom3 hg3)
          go_roundw
          case rel => exact ⟨k + 1, by omega, by go_num, by rw [← HL.out, HE.out]; exact hroom3, hb2.grown hg3 HBS.out HT.out⟩
          case measure => simp [intOf]; omega
        · obtain rfl : k = ls.length := by omega
          rw [List.take_length] at hroom2
          have hd : decide ((ls.length : Int) < (ls.length : Int)) = false := by simp
          go_wp2
          go_ret
          exact ⟨_, rfl, hroom2.1, hb2⟩
/-- A row of one's own behind whatever was done to another row, or to new blocks. -/
theorem OwnK.keep {t : TypeId} {k : IntKind} {w w' : World} {base : Nat} {v : Value} {l : List Int} {row : Option Nat} (h : OwnK t k w base v l) (hg : w.grownBy w' row) (hne : v.ownBlock = none ∨ v.ownBlock ≠ row) : OwnK t k w' base v l := World.ownsRow.kept h hg hne
theorem below_own {w w1 w2 : World} {v : Value} {l : List Int} (hb : Below w.heap.size w w1) (ho : OwnU w1 w.heap.size v l) (hg : w1.grownBy w2 v.ownBlock) : Below w.heap.size w w2 := hb.grown hg hb.size (fun j hj => (ho.lt j hj).1)
end Go.Proofs.Ytpinhcbkfjoopaa
