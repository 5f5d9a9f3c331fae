/- What slices.Grow and slices.Concat answer of rows of numbers. -/
import Derived.Test.YtlghnnmgbdjgoaaSetP
import Derived.Test.YtlghnnmgbdjgoaaShelf
import Derived.Lib.AppendZeros
import Derived.Deep.OwnRows
import Derived.Sort.OwnSortedInts
namespace Go.Proofs.Ytlghnnmgbdjgoaa
open Go.RowKit
set_option linter.unusedVariables false
theorem infoI : (Try.prog.info? 3).map (fun i => (i.zero, i.size, i.bytes)) = some (some (.int .i64 0), 1, 8) := by kernel_rfl
abbrev OwnI (w : World) (base : Nat) (v : Value) (l : List Int) : Prop := OwnK 3 .i64 w base v l
/-- A row of the call's own that has room for n more. -/
def Room (w : World) (base : Nat) (v : Value) (l : List Int) (n : Nat) : Prop := OwnI w base v l ∧ ∃ a cap, v = .slice a l.length cap ∧ l.length + n ≤ cap
theorem size_zeros (n : Nat) : (Builtin.zeroCells (Value.int .i64 0).cells n).size = n := by rw [size_zeroCells]; simp [Value.cells]
set_option maxRecDepth 100000 in
theorem grow_pos (n : Nat) (w : World) (h0 : 0 < n) (h : n * 8 ≤ 281474976710656) :
    Calls Try.prog 98 #[.slice none 0 0, .int .i64 n] w fun e w' => ∃ v, e = .returned v ∧ Room w' w.heap.size v [] n ∧ Below w.heap.size w w' := by
  obtain ⟨i0, hi, hz0, hz1, hz2⟩ := info_parts infoI
  have hr := Lib.run_append_nil_zeros (P := Try.prog) w 37 3 37 3 i0 (.int .i64 0) .i64 .i64 Try.underlying37 Try.underlying3 hi hz0 n h0 (by omega) (by omega) (by rw [hz2]; exact h)
  have hge := grownCap_ge w n 0 3
  have hle := grownCap_le_maxLen w n 0 3 (by unfold maxLen; omega)
  have hb : Below w.heap.size w (w.drew.alloc (.cells (Builtin.zeroCells (Value.int .i64 0).cells n ++ Builtin.zeroCells (Value.int .i64 0).cells (grownCap w n 0 3 - n)) 3)) := (show Below w.heap.size w w.drew from ⟨rfl, rfl, rfl, Nat.le_refl _, fun _ _ => rfl⟩).alloc (Nat.le_refl _) _
  have hown : Room (w.drew.alloc (.cells (Builtin.zeroCells (Value.int .i64 0).cells n ++ Builtin.zeroCells (Value.int .i64 0).cells (grownCap w n 0 3 - n)) 3)) w.heap.size (.slice (some ⟨w.heap.size, 0, none⟩) 0 (grownCap w n 0 3)) [] n := by
    refine ⟨⟨rfl, .inr ⟨w.heap.size, _, _, rfl, Nat.le_refl _, heap_alloc_new w.drew _, Nat.zero_le _, hle, ?_, by simp⟩⟩, _, _, rfl, by simpa using hge⟩
    rw [Array.size_append, size_zeros, size_zeros]; omega
  have HO := hide hown
  have HB := hide hb
  have n0 : (0 : Int) < (n : Int) := by omega
  have n1 : (n : Int) ≤ 281474976710656 := by omega
  clear hown hb hi hz0 hz1 hz2
  generalize (w.drew.alloc (.cells (Builtin.zeroCells (Value.int .i64 0).cells n ++ Builtin.zeroCells (Value.int .i64 0).cells (grownCap w n 0 3 - n)) 3)) = W at *
  generalize grownCap w n 0 3 = c at *
  have hc0 : 0 ≤ c := Nat.zero_le _
  generalize (n : Int) = u at *
  go_enter Try.func98, Try.ntmps98
  go_wp2_with (at_builtin; go_must (refine Lib.wpList_append_run _ rfl _ _ _ _ rfl _ _ rfl rfl _ _ hr ?_))
  go_ret
  exact ⟨_, rfl, HO.out, HB.out⟩
theorem grow_zero (w : World) :
    Calls Try.prog 98 #[.slice none 0 0, .int .i64 0] w fun e w' => ∃ v, e = .returned v ∧ Room w' w.heap.size v [] 0 ∧ Below w.heap.size w w' := by
  go_enter Try.func98, Try.ntmps98
  go_wp2
  go_ret
  exact ⟨_, rfl, ⟨OwnK.nil _ _ _ _, none, 0, rfl, by simp⟩, Below.refl _ _⟩
theorem grow_any (n : Nat) (w : World) (h : n * 8 ≤ 281474976710656) :
    Calls Try.prog 98 #[.slice none 0 0, .int .i64 n] w fun e w' => ∃ v, e = .returned v ∧ Room w' w.heap.size v [] n ∧ Below w.heap.size w w' := by
  rcases Nat.eq_zero_or_pos n with h0 | h0
  · subst h0; exact grow_zero w
  · exact grow_pos n w h0 h
/-- 'append(b, x...)' where there is room: what the operation does. -/
theorem run_room (w : World) (base : Nat) (v vx : Value) (acc l : List Int) (n : Nat) (ty : TypeId) (hown : Room w base v acc n) (hrow : RowK .i64 w vx l) (hn : l.length ≤ n) :
    ∃ v' w', (Builtin.append_ #[37, 37] ty #[v, vx]).run Try.prog w = .ok v' w' ∧ Room w' base v' (acc ++ l) (n - l.length) ∧ w.grownBy w' v.ownBlock := by
  obtain ⟨i0, hi, hz0, hz1, hz2⟩ := info_parts infoI
  obtain ⟨ho, a, cap, hv, hcap⟩ := hown
  have hlen := ho.1
  obtain ⟨ao, cx, rfl, ⟨hlc, hcm, hnn⟩, hcase⟩ := hrow
  by_cases h0 : l = []
  · subst h0
    subst hv
    refine ⟨_, w, ?_, ⟨by rw [List.append_nil]; exact ho, a, cap, by simp, by simpa using hcap⟩, ⟨rfl, rfl, rfl, Nat.le_refl _, fun _ _ _ => rfl⟩⟩
    have hle : acc.length ≤ cap := by omega
    cases ao <;> cases a <;> simp [Builtin.append_, run_underlying Try.underlying37, sizeOf, typeInfo, hi, Builtin.lenOf, hle, Builtin.firstCells, loadCells, loadCellsFrom, storeCells]
  · rcases hcase with h | ⟨b, off, rfl, hbs, hcell⟩
    · exact absurd h h0
    have hpos : 0 < l.length := List.length_pos_iff.2 h0
    rcases ho.2 with ⟨hnil, hz⟩ | ⟨g, cap', cur, hv2, hbg, hg, hnc, hcm', hcs, htake⟩
    · rw [hnil] at hv
      simp only [Value.slice.injEq] at hv
      obtain ⟨_, _, rfl⟩ := hv
      omega
    · rw [hv2] at hv
      simp only [Value.slice.injEq] at hv
      obtain ⟨rfl, _, rfl⟩ := hv
      subst hv2
      have hroom : acc.length + l.length ≤ cap' := by omega
      have hnews : ∀ j u, (l.map (Value.int .i64))[j]? = some u → w.cell? ((⟨b, off, none⟩ : Addr).add j) = some u := by
        intro j u hj
        have hjl : j < l.length := by
          rcases Nat.lt_or_ge j l.length with h | h
          · exact h
          · rw [List.getElem?_eq_none (by simpa using h)] at hj; cases hj
        have ea : ((⟨b, off, none⟩ : Addr).add j) = ⟨b, off + j, none⟩ := by
          unfold Addr.add; split
          · rename_i h; subst h; rfl
          · rfl
        rw [ea, hcell j hjl]
        simp [List.getElem?_eq_getElem hjl] at hj
        subst hj
        simp [List.getD_eq_getElem?_getD, List.getElem?_eq_getElem hjl]
      have hone : ∀ u ∈ l.map (Value.int .i64), u.oneCell' = true := by intro u hu; obtain ⟨z, _, rfl⟩ := List.mem_map.1 hu; rfl
      have hr := run_append_room (P := Try.prog) w 37 ty 3 i0 Try.underlying37 hi g acc.length cap' cur hg ⟨b, off, none⟩ l.length cx (l.map (Value.int .i64)) (by simp [hz1]) hnews hone hroom (by rw [hz1]; simp; omega)
      have e1 : (acc ++ l).length = acc.length + l.length := by simp
      have e2 : (acc ++ l).map (Value.int .i64) = acc.map (Value.int .i64) ++ l.map (Value.int .i64) := by simp
      refine ⟨_, _, hr, ⟨⟨by simp, .inr ⟨g, cap', _, by rw [e1], hbg, setRow_heap w g cur _ _ _ hg, by rw [e1]; exact hroom, hcm', ?_, ?_⟩⟩, _, _, by rw [e1], by rw [e1]; omega⟩, ⟨rfl, rfl, rfl, by simp, fun k _ hk => setRow_other w g k _ (fun e => hk (by simp [Value.ownBlock, e]))⟩⟩
      · rw [hz1]
        simp only [List.size_toArray, List.length_append, List.length_take, List.length_drop, Array.length_toList, List.length_map]
        omega
      · have htake' : cur.toList.take (acc.length * 1) = acc.map (Value.int .i64) := htake
        rw [hz1, htake', e2]
        have : (acc ++ l).length * 1 = (acc.map (Value.int .i64) ++ l.map (Value.int .i64)).length := by simp
        rw [this]
        exact List.take_left
/-- .. where the walk stands at it. -/
theorem wp_room {ops : Array Oper} {rest : List Oper} {o : Oper} {a : Act} {Q : Exit → Act → World → Prop} (hgd : o.guard = none) (s x : Operand)
    (ho : o.op = .call { callee := .builtin .append, args := #[s, x], argTypes := #[37, 37] })
    (w : World) (base : Nat) (v vx : Value) (acc l : List Int) (n : Nat) (hown : Room w base v acc n) (hrow : RowK .i64 w vx l) (hn : l.length ≤ n) (hs : a.eval s = v) (hx : a.eval x = vx)
    (h : ∀ v' w', Room w' base v' (acc ++ l) (n - l.length) → w.grownBy w' v.ownBlock → wpList Try.prog ops Q rest (a.put o.dst v') w') :
    wpList Try.prog ops Q (o :: rest) a w := by
  obtain ⟨v', w', hr, h1, h2⟩ := run_room w base v vx acc l n o.type hown hrow hn
  exact Lib.wpList_append_run w hgd s x _ _ ho v vx hs hx v' w' hr (h v' w' h1 h2)
/-- Rows in a row: what each holds. -/
def RowsK (w : World) (b : Nat) (ls : List (Value × List Int)) : Prop := ∀ j x, ls[j]? = some x → w.cell? ⟨b, j, none⟩ = some x.1 ∧ RowK .i64 w x.1 x.2
def cat (ls : List (Value × List Int)) : List Int := (ls.map (·.2)).flatten
theorem cat_take (ls : List (Value × List Int)) (k : Nat) (x : Value × List Int) (h : ls[k]? = some x) : cat (ls.take (k + 1)) = cat (ls.take k) ++ x.2 := by
  unfold cat
  rw [List.take_add_one, h]; simp
theorem cat_le (ls : List (Value × List Int)) (k : Nat) : (cat (ls.take k)).length ≤ (cat ls).length := by
  have e : cat ls = cat (ls.take k) ++ cat (ls.drop k) := by unfold cat; rw [← List.flatten_append, ← List.map_append, List.take_append_drop]
  rw [e]; simp
theorem cat_all (ls : List (Value × List Int)) : cat (ls.take ls.length) = cat ls := by rw [List.take_length]
theorem RowsK.below {w w' : World} {b B : Nat} {ls : List (Value × List Int)} (h : RowsK w b ls) (hb : Below B w w') (hB : w.heap.size ≤ B) (hbs : b < B) : RowsK w' b ls :=
  fun j x hx => ⟨(hb.cell (p := ⟨b, j, none⟩) hbs).trans (h j x hx).1, (h j x hx).2.below hb hB⟩
/-- How the second loop of Concat stands. -/
def CatAt (w : World) (ls : List (Value × List Int)) (i vl : Value) (wr : World) : Prop :=
  ∃ k : Nat, k ≤ ls.length ∧ i = .int .i64 k ∧ Room wr w.heap.size vl (cat (ls.take k)) ((cat ls).length - (cat (ls.take k)).length) ∧ Below w.heap.size w wr
theorem Room.shp {w : World} {base : Nat} {v : Value} {l : List Int} {n : Nat} (h : Room w base v l n) : ∃ a cap, v = .slice a l.length cap := OwnK.shape h.1
set_option maxHeartbeats 1000000 in
theorem concat_any (b : Nat) (m : Nat) (cap : Nat) (ls : List (Value × List Int)) (w : World) (hm : ls.length = m) (hm1 : m ≤ 1000) (hbs : b < w.heap.size) (hr : RowsK w b ls) (hsz : (cat ls).length * 8 ≤ 281474976710656) :
    Calls Try.prog 78 #[.slice (some ⟨b, 0, none⟩) m cap] w fun e w' => ∃ v, e = .returned v ∧ OwnI w' w.heap.size v (cat ls) ∧ Below w.heap.size w w' := by
  subst hm
  have HG := hide (fun n w' (h : n * 8 ≤ 281474976710656) => grow_any n w' h)
  have HR := hide hr
  have HS := hide (cat_le ls)
  have hl0 := HS.out 0
  clear hr
  go_enter Try.func78, Try.ntmps78
  go_wp2
  go_loop [11, 3] (fun i s => ∃ k : Nat, k ≤ ls.length ∧ i = .int .i64 k ∧ s = .int .i64 ((cat (ls.take k)).length : Int)) (fun i _ => ls.length - (intOf i).toNat)
  case atStart => exact ⟨0, by omega, rfl, by simp [cat]⟩
  case round =>
    obtain ⟨k, hk, rfl, rfl⟩ := hrel
    have hc1 := HS.out k
    have hc2 := HS.out (k + 1)
    by_cases hlt : k < ls.length
    · obtain ⟨x, hx⟩ : ∃ x, ls[k]? = some x := ⟨_, List.getElem?_eq_getElem hlt⟩
      obtain ⟨g0, rx⟩ := HR.out k x hx
      obtain ⟨ax, cx, hvx, hrest⟩ := rx
      rw [hvx] at g0
      have e1 := cat_take ls k x hx
      have e2 : (cat (ls.take (k + 1))).length = (cat (ls.take k)).length + x.2.length := by rw [e1]; simp
      have HE := hide e2
      have e3 : (cat (ls.take k)).length + x.2.length ≤ (cat ls).length := by omega
      generalize (cat (ls.take k)).length = c at *
      generalize x.2.length = y at *
      generalize (cat ls).length = z at *
      clear hx hrest hvx e1 e2
      have j0 : (0 : Int) ≤ (k : Int) := by omega
      have j1 : (k : Int) < (ls.length : Int) := by omega
      have j2 : ((c : Int) + (y : Int)) ≤ 281474976710656 := by omega
      have j3 : (0 : Int) ≤ ((c : Int) + (y : Int)) := by omega
      go_wp2
      go_round
      case rel => exact ⟨k + 1, by omega, by go_num, by rw [HE.out]; simp⟩
      case measure => simp [intOf]; omega
    · obtain rfl : k = ls.length := by omega
      rw [cat_all]
      have hd : decide ((ls.length : Int) < (ls.length : Int)) = false := by simp
      clear hc1 hc2 hl0
      go_wp2_with (go_at_call 98; go_must (refine (HG.out _ _ hsz).mono ?_); rintro e w1 ⟨v, rfl, hroom, hb1⟩)
      obtain ⟨av, cv, hv⟩ : ∃ a cap, v = .slice a 0 cap := hroom.shp
      rw [hv] at hroom ⊢
      have HR1 := hide (fun w2 (hb : Below w.heap.size w w2) => HR.out.below hb (Nat.le_refl _) hbs)
      clear HR HG hv
      go_wp2
      go_loopw [27, 6] (fun i vl wr => CatAt w ls i vl wr) (fun i _ _ => ls.length - (intOf i).toNat)
      case atStart => exact ⟨0, by omega, rfl, by simpa [cat] using hroom, hb1⟩
      case round =>
        obtain ⟨k, hk, rfl, hroom2, hb2⟩ := hrel
        clear hroom hb1
        by_cases hlt : k < ls.length
        · obtain ⟨x, hx⟩ : ∃ x, ls[k]? = some x := ⟨_, List.getElem?_eq_getElem hlt⟩
          obtain ⟨g0, rx⟩ := HR1.out _ hb2 k x hx
          have e1 := cat_take ls k x hx
          have e3 := HS.out (k + 1)
          have e2 : (cat (ls.take (k + 1))).length = (cat (ls.take k)).length + x.2.length := by rw [e1]; simp
          have HE := hide e1
          have hle : x.2.length ≤ (cat ls).length - (cat (ls.take k)).length := by omega
          have HL := hide (show (cat ls).length - (cat (ls.take k)).length - x.2.length = (cat ls).length - (cat (ls.take (k + 1))).length by omega)
          have HT := hide (fun j hj => (hroom2.1.lt j hj).1)
          have HBS := hide hb2.size
          generalize (cat ls).length - (cat (ls.take k)).length = n at *
          obtain ⟨x1, x2⟩ := x
          simp only at g0 rx HE HL hle
          obtain ⟨ax, cx, hvx⟩ : ∃ ax cx, x1 = .slice ax x2.length cx := by obtain ⟨ax, cx, h, _⟩ := rx; exact ⟨ax, cx, h⟩
          subst hvx
          clear hx e1 e2 e3
          have j0 : (0 : Int) ≤ (k : Int) := by omega
          have j1 : (k : Int) < (ls.length : Int) := by omega
          go_wp2_with (at_builtin; go_must (refine wp_room rfl _ _ rfl _ w.heap.size _ _ (cat (ls.take k)) x2 n hroom2 rx hle rfl rfl ?_); intro v' w3 hroom3 hg3)
          go_roundw
          case rel => exact ⟨k + 1, by omega, by go_num, by rw [← HL.out, HE.out]; exact hroom3, hb2.grown hg3 HBS.out HT.out⟩
          case measure => simp [intOf]; omega
        · obtain rfl : k = ls.length := by omega
          rw [cat_all] at hroom2
          have hd : decide ((ls.length : Int) < (ls.length : Int)) = false := by simp
          go_wp2
          go_ret
          exact ⟨_, rfl, hroom2.1, hb2⟩
end Go.Proofs.Ytlghnnmgbdjgoaa
