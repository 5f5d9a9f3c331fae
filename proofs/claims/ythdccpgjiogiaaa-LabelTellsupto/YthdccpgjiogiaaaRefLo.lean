/- What the document's own LabelsText and LabelsOf answer. -/
import Derived.Test.YthdccpgjiogiaaaRefMa
namespace Go.Proofs.Ythdccpgjiogiaaa
open Go.RowKit
set_option linter.unusedVariables false
theorem kd_as (l : List P.Lb) : ∀ x ∈ P.asM l, P.Kd x.1 := by
  intro x hx
  obtain ⟨y, _, rfl⟩ := List.mem_map.1 hx
  exact (show P.Kd 1 by decide)
/-- LabelsText of labels without an error. -/
theorem labelsText_any (v : Value) (l : List P.Lb) (w : World) (hr : RowL w v l) (hc : P.chk l = 0) : Calls Try.prog 13 #[v] w fun e w' => e = .returned (.string (P.txB (P.asM l))) ∧ Below w.heap.size w w' := by
  have HM := hide (refAsMatches_any v l w hr (P.chk_len hc))
  have HT := hide (fun v' w' (hb : RowM w' v' (P.asM l)) => matchesText_any v' (P.asM l) w' hb (P.chkM_shrt (P.chk_as hc)) (kd_as l))
  obtain ⟨ca, cp, rfl, hrest⟩ := hr
  clear hrest hc
  go_enter Try.func13, Try.ntmps13
  go_wp2_with fail
  refine HM.out.mono ?_
  rintro e w2 ⟨v2, rfl, own2, hb2⟩
  go_wp2_with fail
  refine (HT.out _ _ (OwnM.row own2)).mono ?_
  rintro e w3 ⟨rfl, hb3⟩
  go_wp2
  go_ret
  exact ⟨rfl, Below.next hb2 hb3⟩
/-- What LabelsOf answers. -/
def P.Lo (s : List UInt8) (l : List P.Lb) (ok : Bool) : Prop := (ok = true ∧ P.chk l = 0 ∧ s = P.txt (P.asM l)) ∨ (ok = false ∧ ∀ l', P.chk l' = 0 → s ≠ P.txt (P.asM l'))
def LoA (s : ByteArray) (w : World) (e : Ending) (w' : World) : Prop := ∃ (v : Value) (l : List P.Lb) (ok : Bool), e = .returned (.tuple #[v, .bool ok]) ∧ OwnL w' w.heap.size v l ∧ P.Lo (P.dl s) l ok ∧ Below w.heap.size w w'
theorem loA {s : ByteArray} {w w' : World} {e : Ending} (v : Value) (l : List P.Lb) (ok : Bool) (h1 : e = .returned (.tuple #[v, .bool ok])) (h2 : OwnL w' w.heap.size v l) (h3 : P.Lo (P.dl s) l ok) (h4 : Below w.heap.size w w') : LoA s w e w' := ⟨v, l, ok, h1, h2, h3, h4⟩
namespace P
theorem Lo_no {s : List UInt8} {m : List Mt} {r : List UInt8} (h : Ma s m r false) (l : List Lb) : Lo s l false := by
  rcases h with ⟨h, _⟩ | ⟨_, _, _, h⟩
  · cases h
  · exact .inr ⟨rfl, fun l' hl e => h _ [] (chk_as hl) (by rw [List.append_nil]; exact e)⟩
theorem Lo_rest {s : List UInt8} {m : List Mt} {r : List UInt8} (h : Ma s m r true) (hr : r ≠ []) (l : List Lb) : Lo s l false := by
  rcases h with ⟨_, _, _, h⟩ | ⟨h, _⟩
  · exact .inr ⟨rfl, fun l' hl e => hr (h _ [] (chk_as hl) (by rw [List.append_nil]; exact e)).2.symm⟩
  · cases h
theorem Lo_kind {s : List UInt8} {m : List Mt} {r : List UInt8} {x : Mt} (h : Ma s m r true) (hx : x ∈ m) (hk : x.1 ≠ 1) (l : List Lb) : Lo s l false := by
  rcases h with ⟨_, _, _, h⟩ | ⟨h, _⟩
  · refine .inr ⟨rfl, fun l' hl e => ?_⟩
    have e2 := (h _ [] (chk_as hl) (by rw [List.append_nil]; exact e)).1
    rw [← e2] at hx
    obtain ⟨y, _, rfl⟩ := List.mem_map.1 hx
    exact hk rfl
  · cases h
theorem Lo_bad {s : List UInt8} {m : List Mt} {r : List UInt8} {l : List Lb} (h : Ma s m r true) (hl : m = asM l) (hc : chk l ≠ 0) : Lo s l false := by
  rcases h with ⟨_, _, _, h⟩ | ⟨h, _⟩
  · refine .inr ⟨rfl, fun l' hl' e => ?_⟩
    have e2 := (h _ [] (chk_as hl') (by rw [List.append_nil]; exact e)).1
    rw [hl] at e2
    rw [← asM_inj e2] at hc
    exact hc hl'
  · cases h
theorem Lo_ok {s : List UInt8} {m : List Mt} {l : List Lb} (h : Ma s m [] true) (hl : m = asM l) (hc : chk l = 0) : Lo s l true := by
  rcases h with ⟨_, _, h, _⟩ | ⟨h, _⟩
  · exact .inl ⟨rfl, hc, by rw [h, List.append_nil, hl]⟩
  · cases h
end P
theorem ma_len {s : List UInt8} {m : List P.Mt} {r : List UInt8} {ok : Bool} (h : P.Ma s m r ok) : m.length ≤ 10 := by
  rcases h with ⟨_, h, _⟩ | ⟨_, rfl, _⟩
  · exact P.chkM_len h
  · simp
set_option maxHeartbeats 2000000 in
theorem labelsOf_any (s : ByteArray) (w : World) (hs : s.size ≤ 1048576) : Calls Try.prog 14 #[.string s] w fun e w' => LoA s w e w' := by
  have HS := hide (matchesAt_any s w hs)
  have HC := hide labelsFault_any
  go_enter Try.func14, Try.ntmps14
  go_wp2_with fail
  refine HS.out.mono ?_
  rintro e w1 ⟨v, m, r, ok, rfl, own1, hsp, hmo, hb1⟩
  cases ok with
  | false =>
    have HR := hide (P.Lo_no hsp [])
    clear hsp
    go_wp2
    go_ret2
    exact loA _ [] false rfl (OwnX.nil _ _ _ _ _) HR.out hb1
  | true =>
    cases hre : r.toList.isEmpty with
    | false =>
      have HR := hide (P.Lo_rest hsp (fun e => by
        rw [List.isEmpty_eq_false_iff, Lib.toList_data] at hre
        exact hre e) [])
      clear hsp
      go_wp2
      go_ret2
      exact loA _ [] false rfl (OwnX.nil _ _ _ _ _) HR.out hb1
    | true =>
      have hr0 : P.dl r = [] := by
        rw [List.isEmpty_iff, Lib.toList_data] at hre
        exact hre
      rw [hr0] at hsp
      have hml := ma_len hsp
      have HSP := hide hsp
      have HMO := hide hmo
      clear hsp hmo hr0
      obtain ⟨a, cap, rfl, ⟨hlc, hmax, hnn⟩, hcase⟩ := OwnM.row own1
      unfold maxLen at hmax
      have hw1 := hb1.size
      go_wp2
      go_loopw [7, 24] (fun x i wr => ∃ (k : Nat) (l : List P.Lb), k ≤ m.length ∧ i = .int .i64 k ∧ m.take k = P.asM l ∧ OwnL wr w1.heap.size x l ∧ Below w1.heap.size w1 wr) (fun _ i _ => m.length - (intOf i).toNat)
      case atStart => exact ⟨0, [], by omega, rfl, rfl, OwnX.nil _ _ _ _ _, Below.refl _ _⟩
      case round =>
        obtain ⟨k, l, hk, rfl, heq, hown, hB⟩ := hrel
        have HQ := hide heq
        have hll : l.length ≤ 10 := by
          have := congrArg List.length heq
          rw [P.asM_len, List.length_take] at this
          omega
        clear heq
        have hbw : Below w.heap.size w wr := Below.next hb1 hB
        by_cases hlt : k < m.length
        · rcases hcase with h | ⟨b, off, rfl, hbs, hcell⟩
          · rw [h] at hlt; simp at hlt
          have j0 : (0 : Int) ≤ (k : Int) := by omega
          have j1 : (k : Int) < (m.length : Int) := by omega
          obtain ⟨x, hx⟩ : ∃ x, m[k]? = some x := ⟨_, List.getElem?_eq_getElem hlt⟩
          obtain ⟨g0, g1, g2⟩ := RowM.at hcell hx
          have q0 := (hB.cell (p := ⟨b, off + k * 3, none⟩) hbs).trans g0
          have q1 := (hB.cell (p := ⟨b, off + k * 3 + 1, none⟩) hbs).trans g1
          have q2 := (hB.cell (p := ⟨b, off + k * 3 + 2, none⟩) hbs).trans g2
          have HX := hide hx
          obtain ⟨xk, xn, xv⟩ := x
          clear hcell g0 g1 g2 hx
          simp only at q0 q1 q2
          have hBW : Below w.heap.size w (wr.alloc (.cells #[.int .i64 xk, .string xn, .string xv] 49)) := hbw.alloc hbw.size _
          have hBW1 : Below w1.heap.size w1 (wr.alloc (.cells #[.int .i64 xk, .string xn, .string xv] 49)) := hB.alloc hB.size _
          have hownW : OwnL (wr.alloc (.cells #[.int .i64 xk, .string xn, .string xv] 49)) w1.heap.size _ l := hown.below ((Below.refl _ wr).alloc (Nat.le_refl _) _) (Nat.le_refl _)
          clear hown
          by_cases hk1 : xk = 1
          · have hk2 : (xk == 1) = true := by simp [hk1]
            have HT : Hid (m.take (k + 1) = P.asM (l ++ [(xn, xv)])) := by
              show _ = _
              rw [P.take_at HX.out, HQ.out, P.asM_app, hk1]
            clear hk1
            go_wp2_with (at_builtin; go_must (refine wp_oneL rfl _ _ rfl w1.heap.size w1.heap.size w1 _ _ l (xn, xv) hownW hBW1 (Nat.le_refl _) rfl _ rfl (by simp) (by omega) hBW1.size ?_); intro v2 w2 own2 hb2 _ _)
            go_roundw
            case rel => exact ⟨k + 1, l ++ [(xn, xv)], by omega, by go_num, HT.out, own2, hb2⟩
            case measure => simp [intOf]; omega
          · have hk2 : (xk == 1) = false := by simp [hk1]
            have HR := hide (P.Lo_kind HSP.out (List.mem_of_getElem? HX.out) hk1 [])
            clear hk1
            go_wp2
            go_ret2
            exact loA _ [] false rfl (OwnX.nil _ _ _ _ _) HR.out hBW
        · have hd : decide ((k : Int) < (m.length : Int)) = false := by simp; omega
          have HM : Hid (m = P.asM l) := by
            show _ = _
            rw [← HQ.out, List.take_of_length_le (by omega)]
          have hlo : LbOk l := by
            intro x hx
            have := HMO.out (1, x.1, x.2) (by rw [HM.out]; exact List.mem_map.2 ⟨x, hx, rfl⟩)
            exact this.2
          have HCl := hide (HC.out _ l wr (OwnL.row hown) hlo)
          by_cases hz : P.chk l = 0
          · have HR := hide (P.Lo_ok HSP.out HM.out hz)
            rw [hz] at HCl
            clear hz
            go_wp2_with (go_at_call 11; refine HCl.out.mono ?_; rintro e w2 ⟨rfl, hc2⟩)
            go_ret2
            exact loA _ l true rfl ((hown.below hc2 (Nat.le_refl _)).base hw1) HR.out (Below.next hbw hc2)
          · have HR := hide (P.Lo_bad HSP.out HM.out hz)
            have hz2 : (P.chk l == 0) = false := by simp [hz]
            generalize P.chk l = c at HCl hz2
            clear hz
            go_wp2_with (go_at_call 11; refine HCl.out.mono ?_; rintro e w2 ⟨rfl, hc2⟩)
            go_ret2
            exact loA _ l false rfl ((hown.below hc2 (Nat.le_refl _)).base hw1) HR.out (Below.next hbw hc2)
end Go.Proofs.Ythdccpgjiogiaaa
