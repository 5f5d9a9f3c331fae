/- Several texts in one. -/
import Derived.Test.YtcaidfffmllfeaaRefHvCAll
/- What the reference's Counted answers. -/
namespace Go.Proofs.Ytcaidfffmllfeaa
open Go.RowKit
set_option linter.unusedVariables false
namespace P
/-- What of a list is still to come, where a key is put in. -/
def rst (k : ByteArray) (n : Int) (put : Bool) (l : List Ct) : List Ct := if put then l else ins l k n
theorem rst_put (k : ByteArray) (n : Int) (l : List Ct) : rst k n true l = l := rfl
theorem rst_same {k : ByteArray} {n : Int} {x : Ct} (l : List Ct) (h : x.1 = k) : rst k n false (x :: l) = (x.1, x.2 + n) :: l := by simp [rst, ins, h]
theorem rst_new {k : ByteArray} {n : Int} {x : Ct} (l : List Ct) (h : x.1 ≠ k) (h2 : kl k x.1 = true) : rst k n false (x :: l) = (k, n) :: x :: l := by simp [rst, ins, h, h2]
theorem rst_on {k : ByteArray} {n : Int} {x : Ct} (l : List Ct) (h : x.1 ≠ k) (h2 : kl k x.1 = false) : rst k n false (x :: l) = x :: rst k n false l := by simp [rst, ins, h, h2]
theorem drop_at' {l : List Ct} {k : Nat} {x : Ct} (h : l[k]? = some x) : l.drop k = x :: l.drop (k + 1) := by
  have hk : k < l.length := (List.getElem?_eq_some_iff.1 h).1
  rw [List.drop_eq_getElem_cons hk]
  have := (List.getElem?_eq_some_iff.1 h).2
  rw [this]
theorem drop_gt {l : List Ct} (ha : Asc l) {k : Nat} {x : Ct} (h : l[k]? = some x) : ∀ y ∈ l.drop (k + 1), kl x.1 y.1 = true := by
  have h1 : Asc (l.drop k) := ha.sublist (List.drop_sublist _ _)
  rw [drop_at' h] at h1
  exact (List.pairwise_cons.1 h1).1
theorem below_of {a b : ByteArray} (h : a ≠ b) (h2 : kl b a = false) : kl a b = true := by
  rcases kl_total a b with h1 | h1 | h1
  · exact h1
  · exact absurd h1 h
  · rw [h2] at h1; cases h1
theorem above_iff {a b : ByteArray} (h : a ≠ b) : (!(Op.bytesLess a.toList b.toList || a.toList == b.toList)) = kl b a := by
  have h0 : (a.toList == b.toList) = false := by rw [beq_eq_false_iff_ne]; exact fun e => h (ba_ext e)
  rw [h0, Bool.or_false]
  rcases kl_total a b with h1 | h1 | h1
  · rw [show Op.bytesLess a.toList b.toList = true from h1, kl_asym h1]; rfl
  · exact absurd h1 h
  · rw [show Op.bytesLess a.toList b.toList = false from kl_asym h1, h1]; rfl
end P
/-- How the loop of Counted stands. -/
def CtdAt (w : World) (l : List P.Ct) (key : ByteArray) (n : Int) (i vo p : Value) (wr : World) : Prop :=
  ∃ (j : Nat) (put : Bool) (out : List P.Ct), j ≤ l.length ∧ i = .int .i64 j ∧ p = .bool put ∧ OwnC wr w.heap.size vo out ∧ out ++ P.rst key n put (l.drop j) = P.ins l key n ∧ out.length ≤ j + (if put then 1 else 0) ∧ (put = true → ∀ x ∈ l.drop j, x.1 ≠ key) ∧ Below w.heap.size w wr
set_option maxRecDepth 100000 in
set_option maxHeartbeats 4000000 in
theorem counted_any (v : Value) (l : List P.Ct) (key : ByteArray) (n : Int) (w : World) (hr : RowC w v l) (ha : P.Asc l) (hl : l.length ≤ 1000) (hp : ∀ y ∈ l, 0 < y.2 ∧ y.2 ≤ 4000000000) (hn : 0 < n ∧ n ≤ 4000000000) :
    Calls Try.prog 31 #[v, .string key, .int .i64 n] w fun e w' => ∃ v', e = .returned v' ∧ OwnC w' w.heap.size v' (P.ins l key n) ∧ Below w.heap.size w w' := by
  obtain ⟨hn0, hn1⟩ := hn
  obtain ⟨a, cap, rfl, ⟨hlc, hmax, hnn⟩, hcase⟩ := hr
  unfold maxLen at hmax
  have HGt := hide (fun k x (h : l[k]? = some x) => P.drop_gt ha h)
  clear hnn ha
  go_enter Try.func31, Try.ntmps31
  go_wp2
  go_loopw [13, 7, 8] (fun i vo p wr => CtdAt w l key n i vo p wr) (fun i _ _ _ => l.length - (intOf i).toNat)
  case atStart => exact ⟨0, false, [], by omega, rfl, rfl, OwnX.nil _ _ _ _ _, by simp [P.rst], by simp, (fun h => by cases h), Below.refl _ _⟩
  case round =>
    obtain ⟨j, put, out, hj, rfl, rfl, hown, hout, hlen, hne, hB⟩ := hrel
    have hsz := hB.size
    obtain ⟨ao, co, rfl⟩ := hown.shp ctC_len
    have HO := hide hown
    have HR := hide hout
    have HB := hide hB
    have HNe := hide hne
    by_cases hlt : j < l.length
    · rcases hcase with h | ⟨b, off, rfl, hbs, hcell⟩
      · rw [h] at hlt; simp at hlt
      obtain ⟨x, hx⟩ : ∃ x, l[j]? = some x := ⟨_, List.getElem?_eq_getElem hlt⟩
      obtain ⟨g0, g1⟩ := RowC.at hcell hx
      have q0 := (hB.cell (p := ⟨b, off + j * 2, none⟩) hbs).trans g0
      have q1 := (hB.cell (p := ⟨b, off + j * 2 + 1, none⟩) hbs).trans g1
      have j0 : (0 : Int) ≤ (j : Int) := by omega
      have j1 : (j : Int) < (l.length : Int) := by omega
      obtain ⟨hx0, hx1⟩ := hp x (List.mem_of_getElem? hx)
      have hd := P.drop_at' hx
      have hgt := hide (HGt.out j x hx)
      rw [hd] at HR HNe
      obtain ⟨xk, xn⟩ := x
      simp only at q0 q1 hx0 hx1 hgt
      clear hcell hown hout hB hd hne g0 g1 hx
      have z1 : (wr.alloc (.cells #[.string xk, .int .i64 xn] 50)).heap.size = wr.heap.size + 1 := by simp
      have z2 : (wr.alloc (.cells #[.string xk, .int .i64 (xn + n)] 50)).heap.size = wr.heap.size + 1 := by simp
      have HO1 : Hid (OwnC (wr.alloc (.cells #[.string xk, .int .i64 xn] 50)) w.heap.size (.slice ao out.length co) out) := HO.out.below ((Below.refl _ _).alloc (Nat.le_refl _) _) (Nat.le_refl _)
      have HO2 : Hid (OwnC (wr.alloc (.cells #[.string xk, .int .i64 (xn + n)] 50)) w.heap.size (.slice ao out.length co) out) := HO.out.below ((Below.refl _ _).alloc (Nat.le_refl _) _) (Nat.le_refl _)
      have HB1 := hide (HB.out.alloc hsz (.cells #[.string xk, .int .i64 xn] 50))
      have HB2 := hide (HB.out.alloc hsz (.cells #[.string xk, .int .i64 (xn + n)] 50))
      have s1 := HB1.out.size
      have s2 := HB2.out.size
      have hsum : xn + n ≤ 8000000000 := by omega
      cases put with
      | true =>
        rw [P.rst_put] at HR
        simp only [if_true] at hlen
        have hxk := HNe.out rfl (xk, xn) (by simp)
        have hke : (xk.toList == key.toList) = false := by rw [beq_eq_false_iff_ne]; exact fun e => hxk (P.ba_ext e)
        have HNx : Hid (∀ x ∈ l.drop (j + 1), x.1 ≠ key) := fun y hy => HNe.out rfl y (by simp [hy])
        clear hxk HNe
        go_wp2_with (at_builtin; go_must (refine wp_oneC rfl (.tmp 40) (.tmp 42) rfl w.heap.size w.heap.size w (wr.alloc (.cells #[.string xk, .int .i64 xn] 50)) _ out (xk, xn) HO1.out HB1.out (Nat.le_refl _) rfl (show Value.slice (some ⟨wr.heap.size + 1, 0, none⟩) 1 1 = _ by rw [z1]) (by omega) s1 s1 ?_); intro v1 w1 own1 hb1 _ _)
        go_roundw
        case rel => exact ⟨j + 1, true, out ++ [(xk, xn)], by omega, by go_num, rfl, own1, by rw [← HR.out, P.rst_put]; simp, by simp; omega, fun _ => HNx.out, hb1⟩
        case measure => simp [intOf]; omega
      | false =>
        simp only [Bool.false_eq_true, if_false] at hlen
        cases hke : (xk.toList == key.toList) with
        | true =>
          obtain rfl : xk = key := P.ba_ext (eq_of_beq hke)
          rw [P.rst_same (k := xk) (x := (xk, xn)) _ rfl] at HR
          have HNx : Hid (∀ x ∈ l.drop (j + 1), x.1 ≠ xk) := fun y hy => (P.kl_ne (hgt.out y hy)).symm
          clear HNe
          go_wp2_with (at_builtin; go_must (refine wp_oneC rfl (.tmp 40) (.tmp 42) rfl w.heap.size w.heap.size w (wr.alloc (.cells #[.string xk, .int .i64 (xn + n)] 50)) _ out (xk, xn + n) HO2.out HB2.out (Nat.le_refl _) rfl (show Value.slice (some ⟨wr.heap.size + 1, 0, none⟩) 1 1 = _ by rw [z2]) (by omega) s2 s2 ?_); intro v1 w1 own1 hb1 _ _)
          go_roundw
          case rel => exact ⟨j + 1, true, out ++ [(xk, xn + n)], by omega, by go_num, rfl, own1, by rw [← HR.out, P.rst_put]; simp, by simp; omega, fun _ => HNx.out, hb1⟩
          case measure => simp [intOf]; omega
        | false =>
          have hxk : xk ≠ key := fun e => by subst e; simp at hke
          have hab := P.above_iff hxk
          cases hkl : P.kl key xk with
          | true =>
            rw [hkl] at hab
            rw [P.rst_new _ hxk hkl] at HR
            have HNx : Hid (∀ x ∈ l.drop (j + 1), x.1 ≠ key) := fun y hy => (P.kl_ne (P.kl_trans hkl (hgt.out y hy))).symm
            have hab3 : Op.bytesLess xk.toList key.toList = false := P.kl_asym hkl
            clear HNe hxk hab hkl
            obtain ⟨o1, ho1⟩ : ∃ o, o = out ++ [(key, n)] := ⟨_, rfl⟩
            have HO1e := hide ho1
            have hol : o1.length ≤ 1001 := by rw [ho1]; simp; omega
            have hol2 : o1.length = out.length + 1 := by rw [ho1]; simp
            have HOL := hide hol2
            have qb : (wr.alloc (.cells #[.string xk, .int .i64 xn] 50)).cell? ⟨wr.heap.size, 0, none⟩ = some (.string xk) := by simp
            have qb1 : (wr.alloc (.cells #[.string xk, .int .i64 xn] 50)).cell? ⟨wr.heap.size, 1, none⟩ = some (.int .i64 xn) := by simp
            have HNb : Hid (∀ w', (wr.alloc (.cells #[.string xk, .int .i64 xn] 50)).grownBy w' (Value.slice ao out.length co).ownBlock → w'.heap[wr.heap.size]? = (wr.alloc (.cells #[.string xk, .int .i64 xn] 50)).heap[wr.heap.size]?) := fun w' hg => hg.block wr.heap.size (by simp) (fun e => by have := (World.ownsRow.lt HO.out wr.heap.size e.symm).2; omega)
            clear ho1 hol2
            go_wp2_with (at_builtin; first
              | (refine wp_oneC rfl (.tmp 40) (.tmp 42) rfl w.heap.size w.heap.size w _ _ o1 (xk, xn) own1 hb1 (Nat.le_refl _) rfl rfl (by omega) (Nat.le_trans s1 (Nat.le_of_lt hs1)) (Nat.le_trans s1 (Nat.le_of_lt hs1)) ?_; intro v2 w2 own2 hb2 _ _)
              | (refine wp_oneC rfl (.tmp 34) (.tmp 38) rfl w.heap.size w.heap.size w (wr.alloc (.cells #[.string xk, .int .i64 xn] 50)) _ out (key, n) HO1.out HB1.out (Nat.le_refl _) rfl (show Value.slice (some ⟨wr.heap.size + 1, 0, none⟩) 1 1 = _ by rw [z1]) (by omega) s1 s1 ?_; intro v1 w1 own1 hb1 hs1 hg1; have hnb := HNb.out _ hg1; have qc := (show w1.cell? ⟨wr.heap.size, 0, none⟩ = (wr.alloc (.cells #[.string xk, .int .i64 xn] 50)).cell? ⟨wr.heap.size, 0, none⟩ from World.cell?_of_block hnb).trans qb; have qc1 := (show w1.cell? ⟨wr.heap.size, 1, none⟩ = (wr.alloc (.cells #[.string xk, .int .i64 xn] 50)).cell? ⟨wr.heap.size, 1, none⟩ from World.cell?_of_block hnb).trans qb1; rw [← HO1e.out] at own1; obtain ⟨a1, c1, rfl⟩ := own1.shp ctC_len))
            go_roundw
            case rel => exact ⟨j + 1, true, o1 ++ [(xk, xn)], by omega, by go_num, rfl, own2, by rw [← HR.out, P.rst_put, HO1e.out]; simp, by have := HOL.out; simp; omega, fun _ => HNx.out, hb2⟩
            case measure => simp [intOf]; omega
          | false =>
            rw [hkl] at hab
            rw [P.rst_on _ hxk hkl] at HR
            have hab3 : Op.bytesLess xk.toList key.toList = true := P.below_of hxk hkl
            clear HNe hxk hab hkl
            go_wp2_with (at_builtin; go_must (refine wp_oneC rfl (.tmp 40) (.tmp 42) rfl w.heap.size w.heap.size w (wr.alloc (.cells #[.string xk, .int .i64 xn] 50)) _ out (xk, xn) HO1.out HB1.out (Nat.le_refl _) rfl (show Value.slice (some ⟨wr.heap.size + 1, 0, none⟩) 1 1 = _ by rw [z1]) (by omega) s1 s1 ?_); intro v1 w1 own1 hb1 _ _)
            go_roundw
            case rel => exact ⟨j + 1, false, out ++ [(xk, xn)], by omega, by go_num, rfl, own1, by rw [← HR.out]; simp, by simp; omega, (fun h => by cases h), hb1⟩
            case measure => simp [intOf]; omega
    · have hd2 : decide ((j : Int) < (l.length : Int)) = false := by simp; omega
      obtain rfl : j = l.length := by omega
      rw [List.drop_length] at HR
      clear hown hout hB HNe hne
      cases put with
      | true =>
        rw [P.rst_put, List.append_nil] at HR
        go_wp2
        go_ret
        exact ⟨_, rfl, by rw [← HR.out]; exact HO.out, HB.out⟩
      | false =>
        simp only [Bool.false_eq_true, if_false] at hlen
        have HR2 : Hid (out ++ [(key, n)] = P.ins l key n) := HR.out
        go_wp2_with (at_builtin; go_must (refine wp_oneC rfl (.tmp 47) (.tmp 51) rfl w.heap.size w.heap.size w _ _ out (key, n) HO.out HB.out (Nat.le_refl _) rfl rfl (by omega) hsz hsz ?_); intro v1 w1 own1 hb1 _ _)
        go_ret
        exact ⟨_, rfl, by rw [← HR2.out]; exact own1, hb1⟩
end Go.Proofs.Ytcaidfffmllfeaa
