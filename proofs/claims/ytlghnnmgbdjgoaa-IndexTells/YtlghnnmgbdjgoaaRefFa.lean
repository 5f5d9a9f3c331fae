/- What the document's own FitsAll answers. -/
import Derived.Test.YtlghnnmgbdjgoaaRefVi
import Derived.Test.YtlghnnmgbdjgoaaBoxM
import Derived.Test.YtlghnnmgbdjgoaaRefFl
namespace Go.Proofs.Ytlghnnmgbdjgoaa
open Go.RowKit
set_option linter.unusedVariables false
namespace P
/-- Does val begin at one of the first i places of s? -/
def upToB (s p : List UInt8) (i : Nat) : Bool := (List.range i).any fun j => Lib.hasPrefix (s.drop j) p
theorem upToB_succ (s p : List UInt8) (i : Nat) : upToB s p (i + 1) = (upToB s p i || Lib.hasPrefix (s.drop i) p) := by
  unfold upToB
  rw [List.range_succ, List.any_append]
  simp
theorem upToB_all (s p : List UInt8) : upToB s p (s.length + 1) = Lib.contains s p := by
  rw [Bool.eq_iff_iff, contains_iff]
  unfold upToB
  rw [List.any_eq_true]
  constructor
  · rintro ⟨j, hj, h⟩
    exact ⟨j, by have := List.mem_range.1 hj; omega, h⟩
  · rintro ⟨j, hj, h⟩
    exact ⟨j, List.mem_range.2 (by omega), h⟩
end P
set_option maxHeartbeats 4000000 in
theorem fitsAll_any (v vm : Value) (l : List P.Lb) (m : List P.Mt) (w : World) (hr : RowL w v l) (hr2 : RowM w vm m) (hc : P.chk l = 0) (hcm : P.chkM m = 0) :
    Calls Try.prog 17 #[v, vm] w fun e w' => e = .returned (.bool (m.all (P.fit1 l))) ∧ Below w.heap.size w w' := by
  have HV := hide (fun n w' (hb : Below w.heap.size w w') => valueIn_any v l n w' (hr.below hb (Nat.le_refl _)))
  have HVO := hide (fun n => P.chk_valL hc n)
  have hvz : ∀ n, (P.valO l n).size ≤ 40 := fun n => P.valO_ok (P.chk_val hc)
  have HVZ := hide hvz
  have HWf := hide (P.chkM_wf hcm)
  have HB := hide begins_any
  obtain ⟨ca, cp, rfl, hrest⟩ := hr
  obtain ⟨a, cap, rfl, ⟨hlc, hmax, hnn⟩, hcase⟩ := hr2
  unfold maxLen at hmax
  clear hrest hvz hc hcm
  have HD : Hid (((∀ x ∈ m, P.fit1 l x = true) → m.all (P.fit1 l) = true) ∧ (∀ x ∈ m, P.fit1 l x = false → m.all (P.fit1 l) = false)) :=
    ⟨fun h => List.all_eq_true.2 h, fun x hx h => by rw [List.all_eq_false]; exact ⟨x, hx, by simp [h]⟩⟩
  generalize m.all (P.fit1 l) = ans at HD
  go_enter Try.func17, Try.ntmps17
  go_wp2
  go_loopw [12] (fun i wr => ∃ (k : Nat), k ≤ m.length ∧ i = .int .i64 k ∧ (∀ j x, j < k → m[j]? = some x → P.fit1 l x = true) ∧ Below w.heap.size w wr) (fun i _ => m.length - (intOf i).toNat)
  case atStart => exact ⟨0, by omega, rfl, fun j x hj => by omega, Below.refl _ _⟩
  case round =>
    obtain ⟨k, hk, rfl, heq, hB⟩ := hrel
    have HQ := hide heq
    clear heq
    by_cases hlt : k < m.length
    · rcases hcase with h | ⟨b, off, rfl, hbs, hcell⟩
      · rw [h] at hlt; simp at hlt
      have j0 : (0 : Int) ≤ (k : Int) := by omega
      have j1 : (k : Int) < (m.length : Int) := by omega
      obtain ⟨x, hx⟩ : ∃ x, m[k]? = some x := ⟨_, List.getElem?_eq_getElem hlt⟩
      obtain ⟨g0, g1, g2⟩ := RowM.at hcell hx
      have q0 := (hB.cell (p := ⟨b, off + k * 3, none⟩) hbs).trans g0
      have q1 := (hB.cell (p := ⟨b, off + k * 3 + 1, none⟩) hbs).trans g1
      have q2 := (hB.cell (p := ⟨b, off + k * 3 + 2, none⟩) hbs).trans g2
      have HX := hide hx
      have hw := HWf.out x (List.mem_of_getElem? hx)
      have HA := hide (BoxM.new wr x)
      obtain ⟨xk, xn, xv⟩ := x
      obtain ⟨_, ⟨hk1, hk4⟩, hv40⟩ := hw
      clear hcell g0 g1 g2 hx
      simp only at q0 q1 q2 hk1 hk4 hv40 HA
      have hBW : Below w.heap.size w (wr.alloc (.cells #[.int .i64 xk, .string xn, .string xv] 56)) := hB.alloc hB.size _
      have HVx := hide (fun w' hb => HV.out xn w' hb)
      rw [HVO.out xn] at HVx
      have hvz := HVZ.out xn
      have HF : Hid (P.fit1 l (xk, xn, xv) = if xk = 1 then (P.valO l xn).toList == xv.toList else if xk = 2 then !((P.valO l xn).toList == xv.toList) else if xk = 3 then Lib.hasPrefix (P.dl (P.valO l xn)) (P.dl xv) else Lib.contains (P.dl (P.valO l xn)) (P.dl xv)) := rfl
      have HNx : Hid (P.fit1 l (xk, xn, xv) = false → ans = false) := fun h => HD.out.2 _ (List.mem_of_getElem? HX.out) h
      have HYx : Hid (P.fit1 l (xk, xn, xv) = true → ∀ j x, j < k + 1 → m[j]? = some x → P.fit1 l x = true) := fun h j y hj hy => by
        rcases Nat.lt_or_ge j k with h1 | h1
        · exact HQ.out j y h1 hy
        · obtain rfl : j = k := by omega
          rw [HX.out] at hy
          simp at hy; subst hy; exact h
      generalize P.fit1 l (xk, xn, xv) = ft at HF HNx HYx
      generalize P.valO l xn = va at HVx hvz HF
      clear HV HVO HVZ HWf HX
      go_wp2_with fail
      refine (HVx.out _ hBW).mono ?_
      rintro e w2 ⟨rfl, hc2⟩
      have hb2 := Below.next hBW hc2
      have bx := HA.out.next hc2
      have c0 := bx.c0
      have c2 := bx.c2
      simp only at c0 c2
      clear hc2 bx HA HVx
      have hx4 : xk = 1 ∨ xk = 2 ∨ xk = 3 ∨ xk = 4 := by omega
      rcases hx4 with rfl | rfl | rfl | rfl
      · have HF2 : Hid (ft = (va.toList == xv.toList)) := HF.out
        cases he : (va.toList == xv.toList) with
        | true =>
          have HY := hide (HYx.out (HF2.out.trans he))
          go_wp2
          go_roundw
          case rel => exact ⟨k + 1, by omega, by go_num, HY.out, hb2⟩
          case measure => simp [intOf]; omega
        | false =>
          have HN := hide (HNx.out (HF2.out.trans he))
          go_wp2
          go_ret
          exact ⟨ret_bool HN.out.symm, hb2⟩
      · have HF2 : Hid (ft = !(va.toList == xv.toList)) := HF.out
        cases he : (va.toList == xv.toList) with
        | false =>
          have HY := hide (HYx.out (by rw [HF2.out, he]; rfl))
          go_wp2
          go_roundw
          case rel => exact ⟨k + 1, by omega, by go_num, HY.out, hb2⟩
          case measure => simp [intOf]; omega
        | true =>
          have HN := hide (HNx.out (by rw [HF2.out, he]; rfl))
          go_wp2
          go_ret
          exact ⟨ret_bool HN.out.symm, hb2⟩
      · have HF2 : Hid (ft = Lib.hasPrefix (P.dl va) (P.dl xv)) := HF.out
        have HB3 := hide (fun w => HB.out va xv w (by omega) (by omega))
        cases he : Lib.hasPrefix (P.dl va) (P.dl xv) with
        | true =>
          have HY := hide (HYx.out (HF2.out.trans he))
          rw [he] at HB3
          go_wp2_with (go_at_call 43; refine (HB3.out _).mono ?_; rintro e w9 ⟨rfl, rfl⟩)
          go_roundw
          case rel => exact ⟨k + 1, by omega, by go_num, HY.out, hb2⟩
          case measure => simp [intOf]; omega
        | false =>
          have HN := hide (HNx.out (HF2.out.trans he))
          rw [he] at HB3
          go_wp2_with (go_at_call 43; refine (HB3.out _).mono ?_; rintro e w9 ⟨rfl, rfl⟩)
          go_ret
          exact ⟨ret_bool HN.out.symm, hb2⟩
      · have HF2 : Hid (ft = Lib.contains (P.dl va) (P.dl xv)) := HF.out
        have HZ := hide (P.dl_size va)
        go_wp2
        go_loopw [8, 25] (fun o i wx => ∃ (t : Nat), t ≤ va.size + 1 ∧ i = .int .i64 t ∧ o = .bool (P.upToB (P.dl va) (P.dl xv) t) ∧ ∃ q, wx = w2.drewN q) (fun _ i _ => va.size + 1 - (intOf i).toNat)
        case atStart => exact ⟨0, by omega, rfl, rfl, 0, rfl⟩
        case round =>
          obtain ⟨t, ht, rfl, rfl, q, rfl⟩ := hrel
          have HU := hide (P.upToB_succ (P.dl va) (P.dl xv) t)
          by_cases htl : t < va.size + 1
          · have hdt : decide ((t : Int) < (va.size : Int) + 1) = true := by simp; omega
            have hti : (t : Int) ≤ (va.size : Int) := by omega
            have hexd : P.dl (va.extract t va.size) = (P.dl va).drop t := by rw [P.dl_extract, List.take_of_length_le (by simp)]
            have hexz := ex_size va t
            have HBt := hide (fun w => HB.out (va.extract t va.size) xv w (by omega) (by omega))
            rw [hexd] at HBt
            clear hexd hexz
            cases hb : P.upToB (P.dl va) (P.dl xv) t with
            | true =>
              have HT : Hid (P.upToB (P.dl va) (P.dl xv) (t + 1) = true) := by show _ = _; rw [HU.out, hb]; rfl
              clear HU hb
              go_wp2
              go_quiet (fail)
              go_wp2
              go_roundw
              case rel => exact ⟨t + 1, by omega, by go_num, by rw [HT.out], _, rfl⟩
              case measure => simp [intOf]; omega
            | false =>
              have HT : Hid (P.upToB (P.dl va) (P.dl xv) (t + 1) = Lib.hasPrefix ((P.dl va).drop t) (P.dl xv)) := by show _ = _; rw [HU.out, hb]; rfl
              clear HU hb
              generalize Lib.hasPrefix ((P.dl va).drop t) (P.dl xv) = hp at HT HBt
              go_wp2
              go_region_held3 (fun wx => wx.cell? ⟨wr.heap.size, 2, none⟩ = some (.string xv) ∧ ∃ q, wx = w2.drewN q) (first | exact ⟨c2, _, rfl⟩ | exact ⟨c2, q + 1, rfl⟩ | go_keep) (first | (go_at_call 43; refine (HBt.out _).mono ?_; rintro e w9 ⟨rfl, rfl⟩))
              go_wp2
              go_roundw
              case rel => exact ⟨t + 1, by omega, by go_num, by rw [HT.out], _, rfl⟩
              case measure => simp [intOf]; omega
          · have hdt : decide ((t : Int) < (va.size : Int) + 1) = false := by simp; omega
            have HT : Hid (P.upToB (P.dl va) (P.dl xv) t = ft) := by
              show _ = _
              have h1 : t = (P.dl va).length + 1 := by have := HZ.out; omega
              rw [h1, P.upToB_all, HF2.out]
            rw [HT.out]
            cases hft : ft with
            | true =>
              have HY := hide (HYx.out hft)
              go_wp2
              go_roundw
              case rel => exact ⟨k + 1, by omega, by go_num, HY.out, below_dn hb2 _⟩
              case measure => simp [intOf]; omega
            | false =>
              have HN := hide (HNx.out hft)
              go_wp2
              go_ret
              exact ⟨ret_bool HN.out.symm, below_dn hb2 _⟩
    · have hd : decide ((k : Int) < (m.length : Int)) = false := by simp; omega
      have HY : Hid (ans = true) := HD.out.1 (fun x hx => by
        obtain ⟨j, hj⟩ := List.mem_iff_getElem?.1 hx
        exact HQ.out j x (by have := (List.getElem?_eq_some_iff.1 hj).1; omega) hj)
      go_wp2
      go_ret
      exact ⟨ret_bool HY.out.symm, hB⟩
end Go.Proofs.Ytlghnnmgbdjgoaa
