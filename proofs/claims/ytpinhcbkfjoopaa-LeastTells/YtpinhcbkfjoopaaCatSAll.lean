/- Several texts in one. -/
import Derived.Test.YtpinhcbkfjoopaaKitLeAll
import Derived.Test.YtpinhcbkfjoopaaKitXAll
import Derived.Deep.OwnRows
import Derived.Lib.AppendZeros
/- Rows of rows of bytes: one behind the other (out of CatT). -/
namespace Go.Proofs.Ytpinhcbkfjoopaa
open Go.RowKit
set_option linter.unusedVariables false
/-- Where a row of bytes lies. -/
abbrev SlH := Option Addr × Nat × Nat
abbrev slV (x : SlH) : Value := .slice x.1 x.2.1 x.2.2
def slC (x : SlH) : List Value := [slV x]
theorem slC_len (x : SlH) : (slC x).length = 1 := rfl
theorem slC_one (x : SlH) : ∀ u ∈ slC x, u.oneCell' = true := by intro u hu; simp [slC] at hu; subst hu; rfl
theorem infoSl : (Try.prog.info? 25).map (fun i => (i.zero, i.size, i.bytes)) = some (some (.slice none 0 0), 1, 24) := by kernel_rfl
abbrev RowS (w : World) (v : Value) (l : List SlH) : Prop := RowX slC 1 w v l
/-- Rows of bytes that the call itself made. -/
abbrev OwnSl (w : World) (base : Nat) (v : Value) (l : List SlH) : Prop := OwnX slC 1 25 w base v l
/-- Texts of the call's own, and room for n more. -/
def RoomS (w : World) (base : Nat) (v : Value) (l : List SlH) (n : Nat) : Prop := OwnSl w base v l ∧ ∃ a cap, v = .slice a l.length cap ∧ l.length + n ≤ cap
theorem size_zerosS (n : Nat) : (Builtin.zeroCells (Value.slice none 0 0).cells n).size = n * 1 := by rw [size_zeroCells]; simp [Value.cells]
set_option maxRecDepth 100000 in
set_option maxHeartbeats 1000000 in
theorem growS_pos (n : Nat) (w : World) (h0 : 0 < n) (h : n * 24 ≤ 281474976710656) :
    Calls Try.prog 34 #[.slice none 0 0, .int .i64 n] w fun e w' => ∃ v, e = .returned v ∧ RoomS w' w.heap.size v [] n ∧ Below w.heap.size w w' := by
  obtain ⟨i0, hi, hz0, hz1, hz2⟩ := info_parts infoSl
  have hr := Lib.run_append_nil_zeros (P := Try.prog) w 40 3 40 25 i0 (Value.slice none 0 0) .i64 .i64 Try.underlying40 Try.underlying3 hi hz0 n h0 (by omega) (by omega) (by rw [hz2]; exact h)
  have hge := grownCap_ge w n 0 25
  have hle := grownCap_le_maxLen w n 0 25 (by unfold maxLen; omega)
  have hb : Below w.heap.size w (w.drew.alloc (.cells (Builtin.zeroCells (Value.slice none 0 0).cells n ++ Builtin.zeroCells (Value.slice none 0 0).cells (grownCap w n 0 25 - n)) 25)) := (show Below w.heap.size w w.drew from ⟨rfl, rfl, rfl, Nat.le_refl _, fun _ _ => rfl⟩).alloc (Nat.le_refl _) _
  have hown : RoomS (w.drew.alloc (.cells (Builtin.zeroCells (Value.slice none 0 0).cells n ++ Builtin.zeroCells (Value.slice none 0 0).cells (grownCap w n 0 25 - n)) 25)) w.heap.size (.slice (some ⟨w.heap.size, 0, none⟩) 0 (grownCap w n 0 25)) [] n := by
    refine ⟨⟨rfl, .inr ⟨w.heap.size, _, _, rfl, Nat.le_refl _, heap_alloc_new w.drew _, Nat.zero_le _, hle, ?_, by simp⟩⟩, _, _, rfl, by simpa using hge⟩
    rw [Array.size_append, size_zerosS, size_zerosS]; omega
  have HO := hide hown
  have HB := hide hb
  have n0 : (0 : Int) < (n : Int) := by omega
  have n1 : (n : Int) ≤ 281474976710656 := by omega
  clear hown hb hi hz0 hz1 hz2
  generalize (w.drew.alloc (.cells (Builtin.zeroCells (Value.slice none 0 0).cells n ++ Builtin.zeroCells (Value.slice none 0 0).cells (grownCap w n 0 25 - n)) 25)) = W at *
  generalize grownCap w n 0 25 = c at *
  have hc0 : 0 ≤ c := Nat.zero_le _
  generalize (n : Int) = u at *
  go_enter Try.func34, Try.ntmps34
  go_wp2_with (at_builtin; go_must (refine Lib.wpList_append_run _ rfl _ _ _ _ rfl _ _ rfl rfl _ _ hr ?_))
  go_ret
  exact ⟨_, rfl, HO.out, HB.out⟩
theorem growS_zero (w : World) :
    Calls Try.prog 34 #[.slice none 0 0, .int .i64 ((0 : Nat) : Int)] w fun e w' => ∃ v, e = .returned v ∧ RoomS w' w.heap.size v [] 0 ∧ Below w.heap.size w w' := by
  go_enter Try.func34, Try.ntmps34
  go_wp2
  go_ret
  exact ⟨_, rfl, ⟨OwnX.nil _ _ _ _ _, none, 0, rfl, by simp⟩, Below.refl _ _⟩
theorem growS_any (n : Nat) (w : World) (h : n * 24 ≤ 281474976710656) :
    Calls Try.prog 34 #[.slice none 0 0, .int .i64 n] w fun e w' => ∃ v, e = .returned v ∧ RoomS w' w.heap.size v [] n ∧ Below w.heap.size w w' := by
  rcases Nat.eq_zero_or_pos n with h0 | h0
  · subst h0; exact growS_zero w
  · exact growS_pos n w h0 h
theorem run_roomS (w : World) (base : Nat) (v vx : Value) (acc l : List SlH) (n : Nat) (ty : TypeId) (hown : RoomS w base v acc n) (hrow : RowS w vx l) (hn : l.length ≤ n) :
    ∃ v' w', (Builtin.append_ #[40, 40] ty #[v, vx]).run Try.prog w = .ok v' w' ∧ RoomS w' base v' (acc ++ l) (n - l.length) ∧ w.grownBy w' v.ownBlock := by
  obtain ⟨i0, hi, hz0, hz1, hz2⟩ := info_parts infoSl
  obtain ⟨ho, a, cap, hv, hcap⟩ := hown
  obtain ⟨ao, cx, rfl, ⟨hlc, hcm, hnn⟩, hcase⟩ := hrow
  by_cases h0 : l = []
  · subst h0
    subst hv
    refine ⟨_, w, ?_, ⟨by rw [List.append_nil]; exact ho, a, cap, by simp, by simpa using hcap⟩, ⟨rfl, rfl, rfl, Nat.le_refl _, fun _ _ _ => rfl⟩⟩
    have hle : acc.length ≤ cap := by omega
    cases ao <;> cases a <;> simp [Builtin.append_, run_underlying Try.underlying40, sizeOf, typeInfo, hi, Builtin.lenOf, hle, Builtin.firstCells, loadCells, loadCellsFrom, storeCells]
  · rcases hcase with h | ⟨b, off, rfl, hbs, hcell⟩
    · exact absurd h h0
    have hpos : 0 < l.length := List.length_pos_iff.2 h0
    have ho2 : w.ownsRow base 25 1 v acc.length (acc.flatMap slC) := ho
    rcases ho2.2 with ⟨hnil, hz⟩ | ⟨g, cap', cur, hv2, hbg, hg, hnc, hcm', hcs, htake⟩
    · rw [hnil] at hv
      simp only [Value.slice.injEq] at hv
      obtain ⟨_, _, rfl⟩ := hv
      omega
    · rw [hv2] at hv
      simp only [Value.slice.injEq] at hv
      obtain ⟨rfl, _, rfl⟩ := hv
      subst hv2
      have hroom : acc.length + l.length ≤ cap' := by omega
      have fl := flat_len slC_len l
      have fa := flat_len slC_len acc
      have hnews : ∀ j u, (l.flatMap slC)[j]? = some u → w.cell? ((⟨b, off, none⟩ : Addr).add j) = some u := by
        intro j u hj
        have ea : ((⟨b, off, none⟩ : Addr).add j) = ⟨b, off + j, none⟩ := by
          unfold Addr.add; split
          · rename_i h; subst h; rfl
          · rfl
        obtain ⟨y, hy, hu⟩ := flat_of slC_len (by decide) l j u hj
        have := hcell (j / 1) y hy (j % 1) u hu
        rw [Nat.add_assoc, Nat.mul_comm, Nat.div_add_mod] at this
        rw [ea]; exact this
      have hone : ∀ u ∈ l.flatMap slC, u.oneCell' = true := by intro u hu; obtain ⟨z, _, hz⟩ := List.mem_flatMap.1 hu; exact slC_one z u hz
      have hr := run_append_room (P := Try.prog) w 40 ty 25 i0 Try.underlying40 hi g acc.length cap' cur hg ⟨b, off, none⟩ l.length cx (l.flatMap slC) (by rw [hz1]; exact fl) hnews hone hroom (by rw [hz1, fl]; omega)
      have e1 : (acc ++ l).length = acc.length + l.length := by simp
      refine ⟨_, _, hr, ⟨⟨?_, .inr ⟨g, cap', _, by rw [e1], hbg, setRow_heap w g cur _ _ _ hg, by rw [e1]; exact hroom, hcm', ?_, ?_⟩⟩, _, _, by rw [e1], by rw [e1]; omega⟩, ⟨rfl, rfl, rfl, by simp, fun k _ hk => setRow_other w g k _ (fun e => hk (by simp [Value.ownBlock, e]))⟩⟩
      · exact flat_len slC_len _
      · rw [hz1]
        simp only [List.size_toArray, List.length_append, List.length_take, List.length_drop, Array.length_toList, fl]
        omega
      · have htake' : cur.toList.take (acc.length * 1) = acc.flatMap slC := htake
        rw [hz1, htake', List.flatMap_append]
        have : (acc ++ l).length * 1 = (acc.flatMap slC ++ l.flatMap slC).length := by
          have h5 : (acc.flatMap slC ++ l.flatMap slC).length = (acc.flatMap slC).length + (l.flatMap slC).length := List.length_append
          rw [h5, fl, fa, e1]; omega
        rw [this]
        exact List.take_left
theorem wp_roomS {ops : Array Oper} {rest : List Oper} {o : Oper} {a : Act} {Q : Exit → Act → World → Prop} (hgd : o.guard = none) (s x : Operand)
    (ho : o.op = .call { callee := .builtin .append, args := #[s, x], argTypes := #[40, 40] })
    (w : World) (base : Nat) (v vx : Value) (acc l : List SlH) (n : Nat) (hown : RoomS w base v acc n) (hrow : RowS w vx l) (hn : l.length ≤ n) (hs : a.eval s = v) (hx : a.eval x = vx)
    (h : ∀ v' w', RoomS w' base v' (acc ++ l) (n - l.length) → w.grownBy w' v.ownBlock → wpList Try.prog ops Q rest (a.put o.dst v') w') :
    wpList Try.prog ops Q (o :: rest) a w := by
  obtain ⟨v', w', hr, h1, h2⟩ := run_roomS w base v vx acc l n o.type hown hrow hn
  exact Lib.wpList_append_run w hgd s x _ _ ho v vx hs hx v' w' hr (h v' w' h1 h2)
/-- Rows in a row: what each holds. -/
def RowsS (w : World) (b : Nat) (ls : List (Value × List SlH)) : Prop := ∀ j x, ls[j]? = some x → w.cell? ⟨b, j, none⟩ = some x.1 ∧ RowS w x.1 x.2
def catS (ls : List (Value × List SlH)) : List SlH := (ls.map (·.2)).flatten
theorem catS_take (ls : List (Value × List SlH)) (k : Nat) (x : Value × List SlH) (h : ls[k]? = some x) : catS (ls.take (k + 1)) = catS (ls.take k) ++ x.2 := by
  unfold catS
  rw [List.take_add_one, h]; simp
theorem catS_le (ls : List (Value × List SlH)) (k : Nat) : (catS (ls.take k)).length ≤ (catS ls).length := by
  have e : catS ls = catS (ls.take k) ++ catS (ls.drop k) := by unfold catS; rw [← List.flatten_append, ← List.map_append, List.take_append_drop]
  rw [e]; simp
theorem catS_all (ls : List (Value × List SlH)) : catS (ls.take ls.length) = catS ls := by rw [List.take_length]
theorem RowsS.below {w w' : World} {b B : Nat} {ls : List (Value × List SlH)} (h : RowsS w b ls) (hb : Below B w w') (hB : w.heap.size ≤ B) (hbs : b < B) : RowsS w' b ls :=
  fun j x hx => ⟨(hb.cell (p := ⟨b, j, none⟩) hbs).trans (h j x hx).1, (h j x hx).2.below hb hB⟩
/-- How the second loop of Concat stands. -/
def CatAtS (w : World) (ls : List (Value × List SlH)) (i vl : Value) (wr : World) : Prop :=
  ∃ k : Nat, k ≤ ls.length ∧ i = .int .i64 k ∧ RoomS wr w.heap.size vl (catS (ls.take k)) ((catS ls).length - (catS (ls.take k)).length) ∧ Below w.heap.size w wr
theorem RoomS.shp {w : World} {base : Nat} {v : Value} {l : List SlH} {n : Nat} (h : RoomS w base v l n) : ∃ a cap, v = .slice a l.length cap := by obtain ⟨_, a, cap, hv, _⟩ := h; exact ⟨a, cap, hv⟩
set_option maxHeartbeats 1000000 in
theorem concatS_any (b : Nat) (m : Nat) (cap : Nat) (ls : List (Value × List SlH)) (w : World) (hm : ls.length = m) (hm1 : m ≤ 1000) (hbs : b < w.heap.size) (hr : RowsS w b ls) (hsz : (catS ls).length * 24 ≤ 281474976710656) :
    Calls Try.prog 22 #[.slice (some ⟨b, 0, none⟩) m cap] w fun e w' => ∃ v, e = .returned v ∧ OwnSl w' w.heap.size v (catS ls) ∧ Below w.heap.size w w' := by
  subst hm
  have HG := hide (fun n w' (h : n * 24 ≤ 281474976710656) => growS_any n w' h)
  have HR := hide hr
  have HS := hide (catS_le ls)
  have hl0 := HS.out 0
  clear hr
  go_enter Try.func22, Try.ntmps22
  go_wp2
  go_loop [11, 3] (fun i s => ∃ k : Nat, k ≤ ls.length ∧ i = .int .i64 k ∧ s = .int .i64 ((catS (ls.take k)).length : Int)) (fun i _ => ls.length - (intOf i).toNat)
  case atStart => exact ⟨0, by omega, rfl, by simp [catS]⟩
  case round =>
    obtain ⟨k, hk, rfl, rfl⟩ := hrel
    have hc1 := HS.out k
    have hc2 := HS.out (k + 1)
    by_cases hlt : k < ls.length
    · obtain ⟨x, hx⟩ : ∃ x, ls[k]? = some x := ⟨_, List.getElem?_eq_getElem hlt⟩
      obtain ⟨g0, rx⟩ := HR.out k x hx
      obtain ⟨ax, cx, hvx, hrest⟩ := rx
      rw [hvx] at g0
      have e1 := catS_take ls k x hx
      have e2 : (catS (ls.take (k + 1))).length = (catS (ls.take k)).length + x.2.length := by rw [e1]; simp
      have HE := hide e2
      have e3 : (catS (ls.take k)).length + x.2.length ≤ (catS ls).length := by omega
      generalize (catS (ls.take k)).length = c at *
      generalize x.2.length = y at *
      generalize (catS ls).length = z at *
      clear hx hrest hvx e1 e2
      have j0 : (0 : Int) ≤ (k : Int) := by omega
      have j1 : (k : Int) < (ls.length : Int) := by omega
      have j2 : ((c : Int) + (y : Int)) ≤ 281474976710656 := by omega
      have j3 : (0 : Int) ≤ ((c : Int) + (y : Int)) := by omega
      go_wp2
      go_round
      case rel => exact ⟨k + 1, by omega, by go_num, by rw [HE.out]; simp⟩
      case measure => simp [intOf]; omega
    · obtain rfl : k = ls.length := by omega
      rw [catS_all]
      have hd : decide ((ls.length : Int) < (ls.length : Int)) = false := by simp
      clear hc1 hc2 hl0
      go_wp2_with (go_at_call 34; go_must (refine (HG.out _ _ hsz).mono ?_); rintro e w1 ⟨v, rfl, hroom, hb1⟩)
      obtain ⟨av, cv, hv⟩ : ∃ a cap, v = .slice a 0 cap := hroom.shp
      rw [hv] at hroom ⊢
      have HR1 := hide (fun w2 (hb : Below w.heap.size w w2) => HR.out.below hb (Nat.le_refl _) hbs)
      clear HR HG hv
      go_wp2
      go_loopw [27, 6] (fun i vl wr => CatAtS w ls i vl wr) (fun i _ _ => ls.length - (intOf i).toNat)
      case atStart => exact ⟨0, by omega, rfl, by simpa [catS] using hroom, hb1⟩
      case round =>
        obtain ⟨k, hk, rfl, hroom2, hb2⟩ := hrel
        clear hroom hb1
        by_cases hlt : k < ls.length
        · obtain ⟨x, hx⟩ : ∃ x, ls[k]? = some x := ⟨_, List.getElem?_eq_getElem hlt⟩
          obtain ⟨g0, rx⟩ := HR1.out _ hb2 k x hx
          have e1 := catS_take ls k x hx
          have e3 := HS.out (k + 1)
          have e2 : (catS (ls.take (k + 1))).length = (catS (ls.take k)).length + x.2.length := by rw [e1]; simp
          have HE := hide e1
          have hle : x.2.length ≤ (catS ls).length - (catS (ls.take k)).length := by omega
          have HL := hide (show (catS ls).length - (catS (ls.take k)).length - x.2.length = (catS ls).length - (catS (ls.take (k + 1))).length by omega)
          have HT := hide (fun j hj => (World.ownsRow.lt hroom2.1 j hj).1)
          have HBS := hide hb2.size
          generalize (catS ls).length - (catS (ls.take k)).length = n at *
          obtain ⟨x1, x2⟩ := x
          simp only at g0 rx HE HL hle
          obtain ⟨ax, cx, hvx⟩ : ∃ ax cx, x1 = .slice ax x2.length cx := by obtain ⟨ax, cx, h, _⟩ := rx; exact ⟨ax, cx, h⟩
          subst hvx
          clear hx e1 e2 e3
          have j0 : (0 : Int) ≤ (k : Int) := by omega
          have j1 : (k : Int) < (ls.length : Int) := by omega
          go_wp2_with (at_builtin; go_must (refine wp_roomS rfl _ _ rfl _ w.heap.size _ _ (catS (ls.take k)) x2 n hroom2 rx hle rfl rfl ?_); intro v' w3 hroom3 hg3)
          go_roundw
          case rel => exact ⟨k + 1, by omega, by go_num, by rw [← HL.out, HE.out]; exact hroom3, hb2.grown hg3 HBS.out HT.out⟩
          case measure => simp [intOf]; omega
        · obtain rfl : k = ls.length := by omega
          rw [catS_all] at hroom2
          have hd : decide ((ls.length : Int) < (ls.length : Int)) = false := by simp
          go_wp2
          go_ret
          exact ⟨_, rfl, hroom2.1, hb2⟩
end Go.Proofs.Ytpinhcbkfjoopaa
