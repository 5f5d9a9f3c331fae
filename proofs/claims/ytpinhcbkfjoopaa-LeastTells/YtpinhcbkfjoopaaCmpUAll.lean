/- Several texts in one. -/
import Derived.Test.YtpinhcbkfjoopaaSoSortAll
import Derived.Test.YtpinhcbkfjoopaaKitLeAll
import Derived.Lib.SliceRun
/- Numbers below 2^64: slices.Compact. -/
namespace Go.Proofs.Ytpinhcbkfjoopaa
open Go.RowKit
set_option linter.unusedVariables false
/-- Of a row, number by number, each that is not its neighbour's. -/
def cps (f : Nat → Int) : Nat → List Int
  | 0 => []
  | k + 1 => if 0 < k ∧ f k = f (k - 1) then cps f k else cps f k ++ [f k]
theorem cps_one (f : Nat → Int) : cps f 1 = [f 0] := by simp [cps]
theorem cps_same {f : Nat → Int} {k : Nat} (h0 : 0 < k) (h : f k = f (k - 1)) : cps f (k + 1) = cps f k := by simp [cps, h0, h]
theorem cps_new {f : Nat → Int} {k : Nat} (h : ¬ (0 < k ∧ f k = f (k - 1))) : cps f (k + 1) = cps f k ++ [f k] := by rw [cps, if_neg h]
theorem cps_len (f : Nat → Int) (k : Nat) : (cps f k).length ≤ k := by
  induction k with
  | zero => simp [cps]
  | succ k ih =>
    rw [cps]
    split
    · omega
    · simp; omega
theorem cps_mem (f : Nat → Int) (k : Nat) (x : Int) : x ∈ cps f k ↔ ∃ t, t < k ∧ f t = x := by
  induction k with
  | zero => simp [cps]
  | succ k ih =>
    by_cases h : 0 < k ∧ f k = f (k - 1)
    · rw [cps_same h.1 h.2, ih]
      constructor
      · rintro ⟨t, h1, h2⟩; exact ⟨t, by omega, h2⟩
      · rintro ⟨t, h1, h2⟩
        rcases Nat.lt_or_ge t k with h3 | h3
        · exact ⟨t, h3, h2⟩
        · obtain rfl : t = k := by omega
          exact ⟨t - 1, by omega, by rw [← h.2]; exact h2⟩
    · rw [cps_new h, List.mem_append, ih]
      constructor
      · rintro (⟨t, h1, h2⟩ | h1)
        · exact ⟨t, by omega, h2⟩
        · simp at h1; exact ⟨k, by omega, h1.symm⟩
      · rintro ⟨t, h1, h2⟩
        rcases Nat.lt_or_ge t k with h3 | h3
        · exact .inl ⟨t, h3, h2⟩
        · obtain rfl : t = k := by omega
          right; simp [h2]
theorem cps_up (f : Nat → Int) (k : Nat) (h : ∀ i j, i < j → j < k → f i ≤ f j) : (cps f k).Pairwise (· < ·) := by
  induction k with
  | zero => simp [cps]
  | succ k ih =>
    have ih := ih fun i j h1 h2 => h i j h1 (by omega)
    by_cases hc : 0 < k ∧ f k = f (k - 1)
    · rw [cps_same hc.1 hc.2]; exact ih
    · rw [cps_new hc, List.pairwise_append]
      refine ⟨ih, by simp, fun x hx y hy => ?_⟩
      simp at hy; subst hy
      obtain ⟨t, h1, rfl⟩ := (cps_mem f k x).1 hx
      have h2 := h (k - 1) k (by omega) (by omega)
      have h3 : f t ≤ f (k - 1) := by
        rcases Nat.lt_or_ge t (k - 1) with h4 | h4
        · exact h t (k - 1) h4 (by omega)
        · obtain rfl : t = k - 1 := by omega
          exact Int.le_refl _
      have h4 : f k ≠ f (k - 1) := fun e => hc ⟨by omega, e⟩
      omega
theorem cps_all {f : Nat → Int} {k : Nat} (h : ∀ t, 0 < t → t < k → f t ≠ f (t - 1)) : cps f k = (List.range k).map f := by
  induction k with
  | zero => rfl
  | succ k ih => rw [cps_new (fun e => h k e.1 (by omega) e.2), ih fun t h1 h2 => h t h1 (by omega), List.range_succ, List.map_append]; rfl
theorem InR.list {B : Nat} {w0 w : World} {g n cap : Nat} {d : Array Int} (h : InR B w0 g n cap w d) : d.toList = (List.range n).map fun t => d[t]! := by
  have hs := h.size
  apply List.ext_getElem
  · simp [hs]
  · intro i h1 h2
    have : i < d.size := by simpa using h1
    simp [this]
/-- The beginning of a row. -/
theorem InR.pre {B : Nat} {w0 w : World} {g n cap : Nat} {d : Array Int} (h : InR B w0 g n cap w d) (k : Nat) (hk : k ≤ n) : OwnK 31 .u64 w B (.slice (some ⟨g, 0, none⟩) k cap) (d.toList.take k) := by
  obtain ⟨h1, h2, h3, cur, hg, hs, hc⟩ := h.parts
  have hl : (d.toList.take k).length = k := by have := h.size; simp; omega
  refine ⟨by simp, .inr ⟨g, cap, cur, by rw [hl], h1, hg, by rw [hl]; omega, h3, by simpa using hs, ?_⟩⟩
  rw [hl, Nat.mul_one, List.map_take, ← hc, List.take_take, Nat.min_eq_left hk]
/-- Numbers that are cleared. -/
theorem InR.clear {B : Nat} {w0 : World} {g n cap : Nat} (m : Nat) : ∀ {w : World} {d : Array Int} (o : Nat) (h : InR B w0 g n cap w d), ∃ d', InR B w0 g n cap (w.setCells g o (List.replicate m (.int .u64 0))) d' ∧ ∀ t, t < o → d'[t]! = d[t]! := by
  induction m with
  | zero => exact fun o h => ⟨_, h, fun _ _ => rfl⟩
  | succ m ih =>
    intro w d o h
    obtain ⟨d', h1, h2⟩ := ih (o + 1) (h.set o 0)
    refine ⟨d', h1, fun t ht => ?_⟩
    rw [h2 t (by omega)]
    have hs := h.size
    by_cases htd : t < d.size
    · simp [htd, show o ≠ t by omega]
    · simp [htd]
set_option maxHeartbeats 8000000 in
set_option maxRecDepth 100000 in
/-- Neighbours that are the same count as one. -/
theorem cmp_in {B : Nat} {w0 w : World} {g n cap : Nat} {d : Array Int} (h : InR B w0 g n cap w d) (hn : n ≤ 1152921504606846976) (f : Nat → Int) (hf : ∀ t, t < n → d[t]! = f t) :
    Calls Try.prog 27 #[.slice (some ⟨g, 0, none⟩) n cap] w fun e w' => ∃ v, e = .returned v ∧ OwnK 31 .u64 w' B v (cps f n) ∧ Below B w0 w' := by
  have HF := hide hf
  have hsz := h.size
  clear hf
  by_cases h2 : n < 2
  · have hd2 : decide ((n : Int) < 2) = true := by simp; omega
    have HE : Hid (cps f n = d.toList) := hide (by
      rw [h.list]
      match n, h2, HF with
      | 0, _, _ => rfl
      | 1, _, HF => rw [cps_one]; simp [HF.out 0 (by omega)])
    go_enter Try.func27, Try.ntmps27
    go_wp2
    go_ret
    refine ⟨_, rfl, ?_, h.bel⟩
    rw [HE.out]
    exact h.own
  · have hd2 : decide ((n : Int) < 2) = false := by simp; omega
    go_enter Try.func27, Try.ntmps27
    go_wp2
    go_loopw [3] (fun vk wr => ∃ k : Nat, vk = .int .i64 k ∧ 1 ≤ k ∧ k ≤ n ∧ InR B w0 g n cap wr d ∧ Hid (∀ t, 0 < t → t < k → f t ≠ f (t - 1))) (fun vk _ => n - (intOf vk).toNat)
    case atStart => exact ⟨1, rfl, Nat.le_refl _, by omega, h, hide fun t h1 h2 => by omega⟩
    case round =>
      clear h
      obtain ⟨k, rfl, hk1, hkn, hk, HD⟩ := hrel
      by_cases hlt : k < n
      · have hdk : decide ((k : Int) < (n : Int)) = true := by simp; omega
        obtain ⟨k1, hk1'⟩ : ∃ k1, k1 + 1 = k := ⟨k - 1, by omega⟩
        have ek : IntKind.i64.wrap ((k : Int) - 1) = (k1 : Int) := by rw [IntKind.wrap_i64]; omega
        have HK1 := hide hk1'
        have hk1k : k1 < k := by omega
        clear hk1'
        have c1 := hk.cell k hlt
        have c2 := hk.cell k1 (by omega)
        rw [HF.out k hlt] at c1
        rw [HF.out k1 (by omega)] at c2
        have HK := hide hk
        have j0 : (0 : Int) ≤ (k : Int) := by omega
        have j1 : (k : Int) < (n : Int) := by omega
        have j2 : (0 : Int) ≤ (k1 : Int) := by omega
        have j3 : (k1 : Int) < (n : Int) := by omega
        clear hk
        by_cases hne : f k = f k1
        · have hde : (f k == f k1) = true := by simp [hne]
          obtain ⟨m, hm⟩ : ∃ m, m + k = n := ⟨n - k, by omega⟩
          have em : ((n : Int) - (k : Int)) = (m : Int) := by omega
          have HM := hide hm
          have hck : ¬ cap = k := by have := HK.out.parts; omega
          clear hm
          have hm1 : 1 ≤ m := by omega
          have hkm : k + m ≤ n := by omega
          have HSM : Hid (cps f (k + 1) = (List.range k).map f) := hide (by rw [cps_same (by omega) (by rw [show k - 1 = k1 by have := HK1.out; omega]; exact hne), cps_all HD.out])
          go_wp2
          go_quiet (fail)
          go_wp2
          rw [show n - k = m by have := HM.out; omega]
          go_loopw [3, 5] (fun vk v5 wr2 => ∃ (x y : Nat) (dk : Array Int), vk = .int .i64 x ∧ v5 = .int .i64 y ∧ k ≤ x ∧ 1 ≤ y ∧ y ≤ m ∧ x + 1 ≤ k + y ∧ InR B w0 g n cap wr2 dk ∧ Hid (cps f (k + y) = (List.range x).map fun t => dk[t]!) ∧ Hid (∀ t, k + y ≤ t + 1 → t < n → dk[t]! = f t)) (fun _ v5 _ => m - (intOf v5).toNat)
          case atStart => exact ⟨k, 1, d, rfl, rfl, Nat.le_refl _, Nat.le_refl _, hm1, Nat.le_refl _, HK.out.draw _, hide (by rw [HSM.out]; exact List.map_congr_left fun t ht => (HF.out t (by have := List.mem_range.1 ht; omega)).symm), hide fun t _ ht => HF.out t ht⟩
          case round =>
            clear c1 c2 HK
            obtain ⟨x, y, dk, rfl, rfl, hx1, hy1, hym, hxy, hk2, HC, HR⟩ := hrel
            by_cases hlt2 : y < m
            · have hdy : decide ((y : Int) < (m : Int)) = true := by simp; omega
              obtain ⟨y1, hy1'⟩ : ∃ y1, y1 + 1 = y := ⟨y - 1, by omega⟩
              have ey : IntKind.i64.wrap ((y : Int) - 1) = (y1 : Int) := by rw [IntKind.wrap_i64]; omega
              have HY1 := hide hy1'
              have hy1y : y1 < y := by omega
              have c1 := hk2.cell (k + y) (by omega)
              have c2 := hk2.cell (k + y1) (by omega)
              rw [HR.out (k + y) (by omega) (by omega)] at c1
              rw [HR.out (k + y1) (by omega) (by omega)] at c2
              have cx := hk2.cell x (by omega)
              have fx := hk2.free x
              have HK2 := hide hk2
              have hszk := hk2.size
              have i0 : (0 : Int) ≤ (y : Int) := by omega
              have i1 : (y : Int) < (m : Int) := by omega
              have i2 : (0 : Int) ≤ (y1 : Int) := by omega
              have i3 : (y1 : Int) < (m : Int) := by omega
              have i4 : (0 : Int) ≤ (x : Int) := by omega
              have i5 : (x : Int) < (n : Int) := by omega
              clear hk2 hy1'
              obtain ⟨p, hp⟩ : ∃ p, f (k + y) = p := ⟨_, rfl⟩
              obtain ⟨q, hq⟩ : ∃ q, f (k + y1) = q := ⟨_, rfl⟩
              rw [hp] at c1
              rw [hq] at c2
              have HP := hide hp
              have HQ := hide hq
              clear hp hq
              by_cases hpq : p = q
              · have hdp : (p != q) = false := by simp [hpq]
                go_wp2
                go_quiet (fail)
                go_wp2
                go_roundw
                case rel =>
                  refine ⟨x, y + 1, dk, rfl, by go_num, hx1, by omega, by omega, by omega, HK2.out.draw _, hide ?_, hide fun t h1 h2 => HR.out t (by omega) h2⟩
                  rw [← HC.out, show k + (y + 1) = (k + y) + 1 by omega]
                  exact cps_same (by omega) (by rw [show k + y - 1 = k + y1 by have := HY1.out; omega, HP.out, HQ.out]; exact hpq)
                case measure => simp [intOf]; omega
              · have hdp : (p != q) = true := by simpa using hpq
                go_wp2
                go_quiet (fail)
                go_wp2
                go_roundw
                case rel =>
                  refine ⟨x + 1, y + 1, dk.setIfInBounds x p, by go_num, by go_num, by omega, by omega, by omega, by omega, (HK2.out.draw _).set x p, hide ?_, hide fun t h1 h2 => ?_⟩
                  · rw [show k + (y + 1) = (k + y) + 1 by omega, cps_new (fun e => hpq (by rw [← HP.out, ← HQ.out, e.2, show k + y - 1 = k + y1 by have := HY1.out; omega])), HC.out, List.range_succ, List.map_append]
                    congr 1
                    · refine List.map_congr_left fun t ht => ?_
                      have := List.mem_range.1 ht
                      simp [show t < dk.size by omega, show x ≠ t by omega]
                    · simp [show x < dk.size by omega, HP.out]
                  · have := HR.out t (by omega) h2
                    rw [← this]
                    simp [show t < dk.size by omega, show x ≠ t by omega]
                case measure => simp [intOf]; omega
            · have hdy : decide ((y : Int) < (m : Int)) = false := by simp; omega
              obtain rfl : y = m := by omega
              have hcx : ¬ cap = x := by have := hk2.parts; omega
              have hxn : x < n := by omega
              have hxc : x ≤ cap := by have := hk2.parts; omega
              have i6 : (x : Int) ≤ (cap : Int) := by omega
              have hcl : ∀ ty, (Builtin.clear_ #[22] ty #[.slice (some ⟨g, x, none⟩) (n - x) (cap - x)]).run Try.prog wr = .ok (.tuple #[]) (wr.setCells g x (List.replicate (n - x) (.int .u64 0))) :=
                fun ty => Lib.run_clear_slice wr _ 31 ty (.int .u64 0) Try.underlying22 (fun w => by obtain ⟨i0, hi, hz0, _⟩ := info_parts Try.info31; simp [zeroValue, typeInfo, hi, hz0]) rfl rfl g x _ _ (by omega) (fun j hj => by rw [hk2.cell (x + j) (by omega)]; rfl) (fun j hj => hk2.free _)
              obtain ⟨d', h1, h2'⟩ := hk2.clear (n - x) x
              have i4 : (0 : Int) ≤ (x : Int) := by omega
              have i5 : (x : Int) < (n : Int) := by omega
              have HO := hide (h1.pre x (by omega))
              have HBB := hide h1.bel
              have HE : Hid (cps f n = d'.toList.take x) := hide (by
                rw [show n = k + y by have := HM.out; omega, HC.out, h1.list, ← List.map_take, List.take_range, Nat.min_eq_left (by omega)]
                exact List.map_congr_left fun t ht => (h2' t (List.mem_range.1 ht)).symm)
              clear hk2 h1 h2'
              go_wp2
              go_ret
              refine ⟨_, rfl, ?_, HBB.out⟩
              rw [HE.out]
              exact HO.out
        · have hde : (f k == f k1) = false := by simpa using hne
          go_wp2
          go_quiet (fail)
          go_wp2
          go_roundw
          case rel =>
            refine ⟨k + 1, by go_num, by omega, by omega, HK.out.draw _, hide fun t h1 h2 => ?_⟩
            rcases Nat.lt_or_ge t k with h3 | h3
            · exact HD.out t h1 h3
            · obtain rfl : t = k := by omega
              rw [show t - 1 = k1 by have := HK1.out; omega]; exact hne
          case measure => simp [intOf]; omega
      · have hdk : decide ((k : Int) < (n : Int)) = false := by simp; omega
        obtain rfl : k = n := by omega
        have HE : Hid (cps f k = d.toList) := hide (by
          rw [hk.list, cps_all HD.out]
          exact List.map_congr_left fun t ht => (HF.out t (List.mem_range.1 ht)).symm)
        go_wp2
        go_ret
        refine ⟨_, rfl, ?_, hk.bel⟩
        rw [HE.out]
        exact hk.own
/-- Neighbours that are the same told once. -/
def dd (l : List Int) : List Int := cps (fun t => l.getD t 0) l.length
/-- The numbers of a list, each once, rising. -/
def ordU (l : List Int) : List Int := dd (srtU l)
theorem srtU_len (l : List Int) : (srtU l).length = l.length := by simp [srtU]
theorem srtU_mem (l : List Int) (x : Int) : x ∈ srtU l ↔ x ∈ l := by simp [srtU]
theorem srtU_le (l : List Int) : ∀ i j, i < j → j < l.length → (srtU l).getD i 0 ≤ (srtU l).getD j 0 := by
  intro i j h1 h2
  have hl := srtU_len l
  have hp : (srtU l).Pairwise (fun a b => (!Sort.ltInt b a) = true) := List.pairwise_mergeSort (fun a b c h1 h2 => by simp [Sort.ltInt] at *; omega) (fun a b => by simp [Sort.ltInt]; omega) l
  have := List.pairwise_iff_getElem.1 hp i j (by omega) (by omega) h1
  simp [Sort.ltInt] at this
  simpa [List.getD_eq_getElem?_getD, List.getElem?_eq_getElem (show i < (srtU l).length by omega), List.getElem?_eq_getElem (show j < (srtU l).length by omega)] using this
theorem ordU_up (l : List Int) : (ordU l).Pairwise (· < ·) := cps_up _ _ fun i j h1 h2 => srtU_le l i j h1 (by rw [srtU_len] at h2; exact h2)
theorem dd_mem (l : List Int) (x : Int) : x ∈ dd l ↔ x ∈ l := by
  unfold dd
  rw [cps_mem]
  constructor
  · rintro ⟨t, h1, h2⟩
    rw [← h2]; simp [List.getD_eq_getElem?_getD, List.getElem?_eq_getElem h1]
  · intro h
    obtain ⟨t, h1, h2⟩ := List.mem_iff_getElem.1 h
    exact ⟨t, h1, by simp [List.getD_eq_getElem?_getD, List.getElem?_eq_getElem h1, h2]⟩
theorem ordU_mem (l : List Int) (x : Int) : x ∈ ordU l ↔ x ∈ l := by unfold ordU; rw [dd_mem, srtU_mem]
theorem ordU_len (l : List Int) : (ordU l).length ≤ l.length := by unfold ordU dd; refine Nat.le_trans (cps_len _ _) ?_; rw [srtU_len]; exact Nat.le_refl _
theorem sort_own (w : World) (base : Nat) (v : Value) (l : List Int) (h : OwnU w base v l) (hn : l.length ≤ 1152921504606846976) :
    Calls Try.prog 26 #[v] w fun e w' => e = .returned (.tuple #[]) ∧ OwnU w' base v (srtU l) ∧ Below base w w' := by
  rcases h.2 with ⟨rfl, h0⟩ | ⟨g, cap, cur, rfl, hb, hg, hn2, hm, hs, ht⟩
  · obtain rfl : l = [] := List.length_eq_zero_iff.1 h0
    refine (sort_none w 0 none).mono ?_
    rintro e w' ⟨rfl, rfl⟩
    exact ⟨rfl, by simpa [srtU] using h, Below.refl _ _⟩
  · have hI : InR base w g l.length cap w l.toArray := ⟨by simp, by simpa using h, Below.refl _ _⟩
    refine (sort_in hI hn).mono ?_
    rintro e w' ⟨rfl, h1⟩
    exact ⟨rfl, h1.own, h1.bel⟩
set_option maxHeartbeats 1000000 in
theorem cmp_none (w : World) :
    Calls Try.prog 27 #[.slice none 0 0] w fun e w' => e = .returned (.slice none 0 0) ∧ w' = w := by
  go_enter Try.func27, Try.ntmps27
  go_wp2
  go_ret
  exact ⟨rfl, rfl⟩
theorem compact_own (w : World) (base : Nat) (v : Value) (l : List Int) (h : OwnU w base v l) (hn : l.length ≤ 1152921504606846976) :
    Calls Try.prog 27 #[v] w fun e w' => ∃ v', e = .returned v' ∧ OwnU w' base v' (dd l) ∧ Below base w w' := by
  rcases h.2 with ⟨rfl, h0⟩ | ⟨g, cap, cur, rfl, hb, hg, hn2, hm, hs, ht⟩
  · obtain rfl : l = [] := List.length_eq_zero_iff.1 h0
    refine (cmp_none w).mono ?_
    rintro e w' ⟨rfl, rfl⟩
    exact ⟨_, rfl, h, Below.refl _ _⟩
  · have hI : InR base w g l.length cap w l.toArray := ⟨by simp, by simpa using h, Below.refl _ _⟩
    exact cmp_in hI hn _ fun t ht => by rw [so_get]
end Go.Proofs.Ytpinhcbkfjoopaa
