/- Several texts in one. -/
import Derived.Test.YtenfpkokogfdaaaKitSkAll
import Derived.Deep.OwnRows
import Derived.Lib.AppendZeros
/- Rows of texts: one behind the other (out of CatC). -/
namespace Go.Proofs.Ytenfpkokogfdaaa
open Go.RowKit
set_option linter.unusedVariables false
/-- Texts that the call itself made. -/
abbrev OwnTx (w : World) (base : Nat) (v : Value) (l : List ByteArray) : Prop := OwnX stC 1 9 w base v l
/-- Texts of the call's own, and room for n more. -/
def RoomT (w : World) (base : Nat) (v : Value) (l : List ByteArray) (n : Nat) : Prop := OwnTx w base v l ∧ ∃ a cap, v = .slice a l.length cap ∧ l.length + n ≤ cap
theorem size_zerosT (n : Nat) : (Builtin.zeroCells (Value.string ⟨#[]⟩).cells n).size = n * 1 := by rw [size_zeroCells]; simp [Value.cells]
set_option maxRecDepth 100000 in
set_option maxHeartbeats 1000000 in
theorem growT_pos (n : Nat) (w : World) (h0 : 0 < n) (h : n * 16 ≤ 281474976710656) :
    Calls Try.prog 31 #[.slice none 0 0, .int .i64 n] w fun e w' => ∃ v, e = .returned v ∧ RoomT w' w.heap.size v [] n ∧ Below w.heap.size w w' := by
  obtain ⟨i0, hi, hz0, hz1, hz2⟩ := info_parts infoStr
  have hr := Lib.run_append_nil_zeros (P := Try.prog) w 37 3 37 9 i0 (Value.string ⟨#[]⟩) .i64 .i64 Try.underlying37 Try.underlying3 hi hz0 n h0 (by omega) (by omega) (by rw [hz2]; exact h)
  have hge := grownCap_ge w n 0 9
  have hle := grownCap_le_maxLen w n 0 9 (by unfold maxLen; omega)
  have hb : Below w.heap.size w (w.drew.alloc (.cells (Builtin.zeroCells (Value.string ⟨#[]⟩).cells n ++ Builtin.zeroCells (Value.string ⟨#[]⟩).cells (grownCap w n 0 9 - n)) 9)) := (show Below w.heap.size w w.drew from ⟨rfl, rfl, rfl, Nat.le_refl _, fun _ _ => rfl⟩).alloc (Nat.le_refl _) _
  have hown : RoomT (w.drew.alloc (.cells (Builtin.zeroCells (Value.string ⟨#[]⟩).cells n ++ Builtin.zeroCells (Value.string ⟨#[]⟩).cells (grownCap w n 0 9 - n)) 9)) w.heap.size (.slice (some ⟨w.heap.size, 0, none⟩) 0 (grownCap w n 0 9)) [] n := by
    refine ⟨⟨rfl, .inr ⟨w.heap.size, _, _, rfl, Nat.le_refl _, heap_alloc_new w.drew _, Nat.zero_le _, hle, ?_, by simp⟩⟩, _, _, rfl, by simpa using hge⟩
    rw [Array.size_append, size_zerosT, size_zerosT]; omega
  have HO := hide hown
  have HB := hide hb
  have n0 : (0 : Int) < (n : Int) := by omega
  have n1 : (n : Int) ≤ 281474976710656 := by omega
  clear hown hb hi hz0 hz1 hz2
  generalize (w.drew.alloc (.cells (Builtin.zeroCells (Value.string ⟨#[]⟩).cells n ++ Builtin.zeroCells (Value.string ⟨#[]⟩).cells (grownCap w n 0 9 - n)) 9)) = W at *
  generalize grownCap w n 0 9 = c at *
  have hc0 : 0 ≤ c := Nat.zero_le _
  generalize (n : Int) = u at *
  go_enter Try.func31, Try.ntmps31
  go_wp2_with (at_builtin; go_must (refine Lib.wpList_append_run _ rfl _ _ _ _ rfl _ _ rfl rfl _ _ hr ?_))
  go_ret
  exact ⟨_, rfl, HO.out, HB.out⟩
theorem growT_zero (w : World) :
    Calls Try.prog 31 #[.slice none 0 0, .int .i64 ((0 : Nat) : Int)] w fun e w' => ∃ v, e = .returned v ∧ RoomT w' w.heap.size v [] 0 ∧ Below w.heap.size w w' := by
  go_enter Try.func31, Try.ntmps31
  go_wp2
  go_ret
  exact ⟨_, rfl, ⟨OwnX.nil _ _ _ _ _, none, 0, rfl, by simp⟩, Below.refl _ _⟩
theorem growT_any (n : Nat) (w : World) (h : n * 16 ≤ 281474976710656) :
    Calls Try.prog 31 #[.slice none 0 0, .int .i64 n] w fun e w' => ∃ v, e = .returned v ∧ RoomT w' w.heap.size v [] n ∧ Below w.heap.size w w' := by
  rcases Nat.eq_zero_or_pos n with h0 | h0
  · subst h0; exact growT_zero w
  · exact growT_pos n w h0 h
theorem run_roomT (w : World) (base : Nat) (v vx : Value) (acc l : List ByteArray) (n : Nat) (ty : TypeId) (hown : RoomT w base v acc n) (hrow : RowT w vx l) (hn : l.length ≤ n) :
    ∃ v' w', (Builtin.append_ #[37, 37] ty #[v, vx]).run Try.prog w = .ok v' w' ∧ RoomT w' base v' (acc ++ l) (n - l.length) ∧ w.grownBy w' v.ownBlock := by
  obtain ⟨i0, hi, hz0, hz1, hz2⟩ := info_parts infoStr
  obtain ⟨ho, a, cap, hv, hcap⟩ := hown
  obtain ⟨ao, cx, rfl, ⟨hlc, hcm, hnn⟩, hcase⟩ := hrow
  by_cases h0 : l = []
  · subst h0
    subst hv
    refine ⟨_, w, ?_, ⟨by rw [List.append_nil]; exact ho, a, cap, by simp, by simpa using hcap⟩, ⟨rfl, rfl, rfl, Nat.le_refl _, fun _ _ _ => rfl⟩⟩
    have hle : acc.length ≤ cap := by omega
    cases ao <;> cases a <;> simp [Builtin.append_, run_underlying Try.underlying37, sizeOf, typeInfo, hi, Builtin.lenOf, hle, Builtin.firstCells, loadCells, loadCellsFrom, storeCells]
  · rcases hcase with h | ⟨b, off, rfl, hbs, hcell⟩
    · exact absurd h h0
    have hpos : 0 < l.length := List.length_pos_iff.2 h0
    have ho2 : w.ownsRow base 9 1 v acc.length (acc.flatMap stC) := ho
    rcases ho2.2 with ⟨hnil, hz⟩ | ⟨g, cap', cur, hv2, hbg, hg, hnc, hcm', hcs, htake⟩
    · rw [hnil] at hv
      simp only [Value.slice.injEq] at hv
      obtain ⟨_, _, rfl⟩ := hv
      omega
    · rw [hv2] at hv
      simp only [Value.slice.injEq] at hv
      obtain ⟨rfl, _, rfl⟩ := hv
      subst hv2
      have hroom : acc.length + l.length ≤ cap' := by omega
      have fl := flat_len stC_len l
      have fa := flat_len stC_len acc
      have hnews : ∀ j u, (l.flatMap stC)[j]? = some u → w.cell? ((⟨b, off, none⟩ : Addr).add j) = some u := by
        intro j u hj
        have ea : ((⟨b, off, none⟩ : Addr).add j) = ⟨b, off + j, none⟩ := by
          unfold Addr.add; split
          · rename_i h; subst h; rfl
          · rfl
        obtain ⟨y, hy, hu⟩ := flat_of stC_len (by decide) l j u hj
        have := hcell (j / 1) y hy (j % 1) u hu
        rw [Nat.add_assoc, Nat.mul_comm, Nat.div_add_mod] at this
        rw [ea]; exact this
      have hone : ∀ u ∈ l.flatMap stC, u.oneCell' = true := by intro u hu; obtain ⟨z, _, hz⟩ := List.mem_flatMap.1 hu; exact stC_one z u hz
      have hr := run_append_room (P := Try.prog) w 37 ty 9 i0 Try.underlying37 hi g acc.length cap' cur hg ⟨b, off, none⟩ l.length cx (l.flatMap stC) (by rw [hz1]; exact fl) hnews hone hroom (by rw [hz1, fl]; omega)
      have e1 : (acc ++ l).length = acc.length + l.length := by simp
      refine ⟨_, _, hr, ⟨⟨?_, .inr ⟨g, cap', _, by rw [e1], hbg, setRow_heap w g cur _ _ _ hg, by rw [e1]; exact hroom, hcm', ?_, ?_⟩⟩, _, _, by rw [e1], by rw [e1]; omega⟩, ⟨rfl, rfl, rfl, by simp, fun k _ hk => setRow_other w g k _ (fun e => hk (by simp [Value.ownBlock, e]))⟩⟩
      · exact flat_len stC_len _
      · rw [hz1]
        simp only [List.size_toArray, List.length_append, List.length_take, List.length_drop, Array.length_toList, fl]
        omega
      · have htake' : cur.toList.take (acc.length * 1) = acc.flatMap stC := htake
        rw [hz1, htake', List.flatMap_append]
        have : (acc ++ l).length * 1 = (acc.flatMap stC ++ l.flatMap stC).length := by
          have h5 : (acc.flatMap stC ++ l.flatMap stC).length = (acc.flatMap stC).length + (l.flatMap stC).length := List.length_append
          rw [h5, fl, fa, e1]; omega
        rw [this]
        exact List.take_left
theorem wp_roomT {ops : Array Oper} {rest : List Oper} {o : Oper} {a : Act} {Q : Exit → Act → World → Prop} (hgd : o.guard = none) (s x : Operand)
    (ho : o.op = .call { callee := .builtin .append, args := #[s, x], argTypes := #[37, 37] })
    (w : World) (base : Nat) (v vx : Value) (acc l : List ByteArray) (n : Nat) (hown : RoomT w base v acc n) (hrow : RowT w vx l) (hn : l.length ≤ n) (hs : a.eval s = v) (hx : a.eval x = vx)
    (h : ∀ v' w', RoomT w' base v' (acc ++ l) (n - l.length) → w.grownBy w' v.ownBlock → wpList Try.prog ops Q rest (a.put o.dst v') w') :
    wpList Try.prog ops Q (o :: rest) a w := by
  obtain ⟨v', w', hr, h1, h2⟩ := run_roomT w base v vx acc l n o.type hown hrow hn
  exact Lib.wpList_append_run w hgd s x _ _ ho v vx hs hx v' w' hr (h v' w' h1 h2)
/-- Rows in a row: what each holds. -/
def RowsT (w : World) (b : Nat) (ls : List (Value × List ByteArray)) : Prop := ∀ j x, ls[j]? = some x → w.cell? ⟨b, j, none⟩ = some x.1 ∧ RowT w x.1 x.2
def catT (ls : List (Value × List ByteArray)) : List ByteArray := (ls.map (·.2)).flatten
theorem catT_take (ls : List (Value × List ByteArray)) (k : Nat) (x : Value × List ByteArray) (h : ls[k]? = some x) : catT (ls.take (k + 1)) = catT (ls.take k) ++ x.2 := by
  unfold catT
  rw [List.take_add_one, h]; simp
theorem catT_le (ls : List (Value × List ByteArray)) (k : Nat) : (catT (ls.take k)).length ≤ (catT ls).length := by
  have e : catT ls = catT (ls.take k) ++ catT (ls.drop k) := by unfold catT; rw [← List.flatten_append, ← List.map_append, List.take_append_drop]
  rw [e]; simp
theorem catT_all (ls : List (Value × List ByteArray)) : catT (ls.take ls.length) = catT ls := by rw [List.take_length]
theorem RowsT.below {w w' : World} {b B : Nat} {ls : List (Value × List ByteArray)} (h : RowsT w b ls) (hb : Below B w w') (hB : w.heap.size ≤ B) (hbs : b < B) : RowsT w' b ls :=
  fun j x hx => ⟨(hb.cell (p := ⟨b, j, none⟩) hbs).trans (h j x hx).1, (h j x hx).2.below hb hB⟩
/-- How the second loop of Concat stands. -/
def CatAtT (w : World) (ls : List (Value × List ByteArray)) (i vl : Value) (wr : World) : Prop :=
  ∃ k : Nat, k ≤ ls.length ∧ i = .int .i64 k ∧ RoomT wr w.heap.size vl (catT (ls.take k)) ((catT ls).length - (catT (ls.take k)).length) ∧ Below w.heap.size w wr
theorem RoomT.shp {w : World} {base : Nat} {v : Value} {l : List ByteArray} {n : Nat} (h : RoomT w base v l n) : ∃ a cap, v = .slice a l.length cap := by obtain ⟨_, a, cap, hv, _⟩ := h; exact ⟨a, cap, hv⟩
set_option maxHeartbeats 1000000 in
theorem concatT_any (b : Nat) (m : Nat) (cap : Nat) (ls : List (Value × List ByteArray)) (w : World) (hm : ls.length = m) (hm1 : m ≤ 1000) (hbs : b < w.heap.size) (hr : RowsT w b ls) (hsz : (catT ls).length * 16 ≤ 281474976710656) :
    Calls Try.prog 22 #[.slice (some ⟨b, 0, none⟩) m cap] w fun e w' => ∃ v, e = .returned v ∧ OwnTx w' w.heap.size v (catT ls) ∧ Below w.heap.size w w' := by
  subst hm
  have HG := hide (fun n w' (h : n * 16 ≤ 281474976710656) => growT_any n w' h)
  have HR := hide hr
  have HS := hide (catT_le ls)
  have hl0 := HS.out 0
  clear hr
  go_enter Try.func22, Try.ntmps22
  go_wp2
  go_loop [11, 3] (fun i s => ∃ k : Nat, k ≤ ls.length ∧ i = .int .i64 k ∧ s = .int .i64 ((catT (ls.take k)).length : Int)) (fun i _ => ls.length - (intOf i).toNat)
  case atStart => exact ⟨0, by omega, rfl, by simp [catT]⟩
  case round =>
    obtain ⟨k, hk, rfl, rfl⟩ := hrel
    have hc1 := HS.out k
    have hc2 := HS.out (k + 1)
    by_cases hlt : k < ls.length
    · obtain ⟨x, hx⟩ : ∃ x, ls[k]? = some x := ⟨_, List.getElem?_eq_getElem hlt⟩
      obtain ⟨g0, rx⟩ := HR.out k x hx
      obtain ⟨ax, cx, hvx, hrest⟩ := rx
      rw [hvx] at g0
      have e1 := catT_take ls k x hx
      have e2 : (catT (ls.take (k + 1))).length = (catT (ls.take k)).length + x.2.length := by rw [e1]; simp
      have HE := hide e2
      have e3 : (catT (ls.take k)).length + x.2.length ≤ (catT ls).length := by omega
      generalize (catT (ls.take k)).length = c at *
      generalize x.2.length = y at *
      generalize (catT ls).length = z at *
      clear hx hrest hvx e1 e2
      have j0 : (0 : Int) ≤ (k : Int) := by omega
      have j1 : (k : Int) < (ls.length : Int) := by omega
      have j2 : ((c : Int) + (y : Int)) ≤ 281474976710656 := by omega
      have j3 : (0 : Int) ≤ ((c : Int) + (y : Int)) := by omega
      go_wp2
      go_round
      case rel => exact ⟨k + 1, by omega, by go_num, by rw [HE.out]; simp⟩
      case measure => simp [intOf]; omega
    · obtain rfl : k = ls.length := by omega
      rw [catT_all]
      have hd : decide ((ls.length : Int) < (ls.length : Int)) = false := by simp
      clear hc1 hc2 hl0
      go_wp2_with (go_at_call 31; go_must (refine (HG.out _ _ hsz).mono ?_); rintro e w1 ⟨v, rfl, hroom, hb1⟩)
      obtain ⟨av, cv, hv⟩ : ∃ a cap, v = .slice a 0 cap := hroom.shp
      rw [hv] at hroom ⊢
      have HR1 := hide (fun w2 (hb : Below w.heap.size w w2) => HR.out.below hb (Nat.le_refl _) hbs)
      clear HR HG hv
      go_wp2
      go_loopw [27, 6] (fun i vl wr => CatAtT w ls i vl wr) (fun i _ _ => ls.length - (intOf i).toNat)
      case atStart => exact ⟨0, by omega, rfl, by simpa [catT] using hroom, hb1⟩
      case round =>
        obtain ⟨k, hk, rfl, hroom2, hb2⟩ := hrel
        clear hroom hb1
        by_cases hlt : k < ls.length
        · obtain ⟨x, hx⟩ : ∃ x, ls[k]? = some x := ⟨_, List.getElem?_eq_getElem hlt⟩
          obtain ⟨g0, rx⟩ := HR1.out _ hb2 k x hx
          have e1 := catT_take ls k x hx
          have e3 := HS.out (k + 1)
          have e2 : (catT (ls.take (k + 1))).length = (catT (ls.take k)).length + x.2.length := by rw [e1]; simp
          have HE := hide e1
          have hle : x.2.length ≤ (catT ls).length - (catT (ls.take k)).length := by omega
          have HL := hide (show (catT ls).length - (catT (ls.take k)).length - x.2.length = (catT ls).length - (catT (ls.take (k + 1))).length by omega)
          have HT := hide (fun j hj => (World.ownsRow.lt hroom2.1 j hj).1)
          have HBS := hide hb2.size
          generalize (catT ls).length - (catT (ls.take k)).length = n at *
          obtain ⟨x1, x2⟩ := x
          simp only at g0 rx HE HL hle
          obtain ⟨ax, cx, hvx⟩ : ∃ ax cx, x1 = .slice ax x2.length cx := by obtain ⟨ax, cx, h, _⟩ := rx; exact ⟨ax, cx, h⟩
          subst hvx
          clear hx e1 e2 e3
          have j0 : (0 : Int) ≤ (k : Int) := by omega
          have j1 : (k : Int) < (ls.length : Int) := by omega
          go_wp2_with (at_builtin; go_must (refine wp_roomT rfl _ _ rfl _ w.heap.size _ _ (catT (ls.take k)) x2 n hroom2 rx hle rfl rfl ?_); intro v' w3 hroom3 hg3)
          go_roundw
          case rel => exact ⟨k + 1, by omega, by go_num, by rw [← HL.out, HE.out]; exact hroom3, hb2.grown hg3 HBS.out HT.out⟩
          case measure => simp [intOf]; omega
        · obtain rfl : k = ls.length := by omega
          rw [catT_all] at hroom2
          have hd : decide ((ls.length : Int) < (ls.length : Int)) = false := by simp
          go_wp2
          go_ret
          exact ⟨_, rfl, hroom2.1, hb2⟩
end Go.Proofs.Ytenfpkokogfdaaa
