/- What ReadMatch and Read answer. -/
import Derived.Test.YthdccpgjiogiaaaLabelU
namespace Go.Proofs.Ythdccpgjiogiaaa
open Go.RowKit
set_option linter.unusedVariables false
namespace P
theorem jt_name {m : List Mt} {x : Mt} (hx : x ∈ m) : x.2.1.size + 1 ≤ (jt m).length := by
  induction m with
  | nil => cases hx
  | cons y m ih =>
    rw [jt_cons]
    simp only [List.length_cons, List.length_append]
    rcases List.mem_cons.1 hx with rfl | h
    · unfold mtx
      simp only [List.length_cons, List.length_append, ← dl_size]
      omega
    · have := ih h; omega
theorem txt_name {m : List Mt} {x : Mt} (hx : x ∈ m) : x.2.1.size ≤ (txt m).length := by
  have := jt_name hx
  unfold txt jb
  simp only [List.length_cons, List.length_append, List.length_drop, List.length_nil]
  omega
theorem chk_wf {l : List Lb} (h : chk l = 0) : Wfs (asM l) := chkM_wf (chk_as h)
/-- What ReadMatch answers. -/
def Rm (s : List UInt8) (m : List Mt) (er : Int) : Prop := (er = 0 ∧ chkM m = 0 ∧ s = txt m) ∨ (er = 4 ∧ m = [] ∧ ∀ m', chkM m' = 0 → s ≠ txt m')
theorem Rm_no {s : List UInt8} {m : List Mt} (h : Sp s m false) : Rm s [] 4 := by
  rcases h with ⟨h, _⟩ | ⟨_, _, h⟩
  · cases h
  · exact .inr ⟨rfl, rfl, fun m' hm => h m' (chkM_wf hm) (chkM_len hm)⟩
theorem Rm_bad {s : List UInt8} {m : List Mt} (h : Sp s m true) (hc : chkM m ≠ 0) : Rm s [] 4 := by
  rcases h with ⟨_, hw, _, hs⟩ | ⟨h, _⟩
  · refine .inr ⟨rfl, rfl, fun m' hm e => ?_⟩
    have := txt_inj hw (chkM_wf hm) (hs.symm.trans e)
    rw [this] at hc
    exact hc hm
  · cases h
theorem Rm_ok {s : List UInt8} {m : List Mt} (h : Sp s m true) (hc : chkM m = 0) : Rm s m 0 := by
  rcases h with ⟨_, hw, _, hs⟩ | ⟨h, _⟩
  · exact .inl ⟨rfl, hc, hs⟩
  · cases h
def Rd (s : List UInt8) (l : List Lb) (er : Int) : Prop := (er = 0 ∧ chk l = 0 ∧ s = txt (asM l)) ∨ (er = 4 ∧ l = [] ∧ ∀ l', chk l' = 0 → s ≠ txt (asM l'))
theorem Rd_no {s : List UInt8} {m : List Mt} (h : Sp s m false) : Rd s [] 4 := by
  rcases h with ⟨h, _⟩ | ⟨_, _, h⟩
  · cases h
  · exact .inr ⟨rfl, rfl, fun l' hl => h _ (chk_wf hl) (chkM_len (chk_as hl))⟩
theorem Rd_kind {s : List UInt8} {m : List Mt} {x : Mt} (h : Sp s m true) (hx : x ∈ m) (hk : x.1 ≠ 1) : Rd s [] 4 := by
  rcases h with ⟨_, hw, _, hs⟩ | ⟨h, _⟩
  · refine .inr ⟨rfl, rfl, fun l' hl e => ?_⟩
    have := txt_inj hw (chk_wf hl) (hs.symm.trans e)
    rw [this] at hx
    obtain ⟨y, _, rfl⟩ := List.mem_map.1 hx
    exact hk rfl
  · cases h
theorem Rd_bad {s : List UInt8} {m : List Mt} {l : List Lb} (h : Sp s m true) (hl : m = asM l) (hc : chk l ≠ 0) : Rd s [] 4 := by
  rcases h with ⟨_, hw, _, hs⟩ | ⟨h, _⟩
  · refine .inr ⟨rfl, rfl, fun l' hl' e => ?_⟩
    have := txt_inj hw (chk_wf hl') (hs.symm.trans e)
    rw [hl] at this
    rw [asM_inj this] at hc
    exact hc hl'
  · cases h
theorem Rd_ok {s : List UInt8} {m : List Mt} {l : List Lb} (h : Sp s m true) (hl : m = asM l) (hc : chk l = 0) : Rd s l 0 := by
  rcases h with ⟨_, hw, _, hs⟩ | ⟨h, _⟩
  · exact .inl ⟨rfl, hc, by rw [← hl]; exact hs⟩
  · cases h
end P
theorem sp_ok {s : ByteArray} {m : List P.Mt} {ok : Bool} (h : P.Sp (P.dl s) m ok) (hs : s.size ≤ 140737488355328) : MtOk m := by
  rcases h with ⟨_, hw, _, he⟩ | ⟨_, rfl, _⟩
  · intro x hx
    obtain ⟨_, ⟨k0, k1⟩, hv⟩ := hw x hx
    have hn := P.txt_name hx
    rw [← he, ← P.dl_size] at hn
    exact ⟨⟨by omega, by omega⟩, by omega, by omega⟩
  · intro x hx; cases hx
theorem sp_len {s : List UInt8} {m : List P.Mt} {ok : Bool} (h : P.Sp s m ok) : m.length ≤ 10 := by
  rcases h with ⟨_, _, h, _⟩ | ⟨_, rfl, _⟩
  · exact h
  · simp
def RmA (s : ByteArray) (w : World) (e : Ending) (w' : World) : Prop := ∃ (v : Value) (m : List P.Mt) (er : Int), e = .returned (.tuple #[v, .int .i64 er]) ∧ OwnM w' w.heap.size v m ∧ P.Rm (P.dl s) m er ∧ MtOk m ∧ Below w.heap.size w w'
theorem rmA {s : ByteArray} {w w' : World} {e : Ending} (v : Value) (m : List P.Mt) (er : Int) (h1 : e = .returned (.tuple #[v, .int .i64 er])) (h2 : OwnM w' w.heap.size v m) (h3 : P.Rm (P.dl s) m er) (h5 : MtOk m) (h4 : Below w.heap.size w w') : RmA s w e w' := ⟨v, m, er, h1, h2, h3, h5, h4⟩
def RdA (s : ByteArray) (w : World) (e : Ending) (w' : World) : Prop := ∃ (v : Value) (l : List P.Lb) (er : Int), e = .returned (.tuple #[v, .int .i64 er]) ∧ OwnL w' w.heap.size v l ∧ P.Rd (P.dl s) l er ∧ LbOk l ∧ Below w.heap.size w w'
theorem rdA {s : ByteArray} {w w' : World} {e : Ending} (v : Value) (l : List P.Lb) (er : Int) (h1 : e = .returned (.tuple #[v, .int .i64 er])) (h2 : OwnL w' w.heap.size v l) (h3 : P.Rd (P.dl s) l er) (h5 : LbOk l) (h4 : Below w.heap.size w w') : RdA s w e w' := ⟨v, l, er, h1, h2, h3, h5, h4⟩
theorem mtOk_nil : MtOk [] := by intro x hx; cases hx
theorem lbOk_nil : LbOk [] := by intro x hx; cases hx
set_option maxHeartbeats 1000000 in
theorem readMatch_any (s : ByteArray) (w : World) (hs : s.size ≤ 140737488355328) : Calls Try.prog 18 #[.string s] w fun e w' => RmA s w e w' := by
  have HS := hide (split_any s w hs)
  have HC := hide checkMatches_any
  go_enter Try.func18, Try.ntmps18
  go_wp2_with fail
  refine HS.out.mono ?_
  rintro e w1 ⟨v, m, ok, rfl, own1, hsp, hb1⟩
  cases ok with
  | false =>
    have HR := hide (P.Rm_no hsp)
    clear hsp
    go_wp2
    go_ret2
    exact rmA _ [] 4 rfl (OwnX.nil _ _ _ _ _) HR.out mtOk_nil hb1
  | true =>
    have hmo := sp_ok hsp hs
    have HCm := hide (HC.out v m w1 (OwnM.row own1) hmo)
    have HSP := hide hsp
    clear hsp
    by_cases hz : P.chkM m = 0
    · have HR := hide (P.Rm_ok HSP.out hz)
      rw [hz] at HCm
      clear hz
      go_wp2_with (go_at_call 34; refine HCm.out.mono ?_; rintro e w2 ⟨rfl, hc2⟩)
      go_ret2
      exact rmA _ m 0 rfl (own1.below hc2 (Nat.le_refl _)) HR.out hmo (Below.next hb1 hc2)
    · have HR := hide (P.Rm_bad HSP.out hz)
      have hz2 : (P.chkM m == 0) = false := by simp [hz]
      generalize P.chkM m = c at HCm hz2
      clear hz
      go_wp2_with (go_at_call 34; refine HCm.out.mono ?_; rintro e w2 ⟨rfl, hc2⟩)
      go_ret2
      exact rmA _ [] 4 rfl (OwnX.nil _ _ _ _ _) HR.out mtOk_nil (Below.next hb1 hc2)
theorem P.asM_app (l : List P.Lb) (x : P.Lb) : P.asM (l ++ [x]) = P.asM l ++ [(1, x.1, x.2)] := by simp [P.asM]
set_option maxHeartbeats 2000000 in
theorem read_any (s : ByteArray) (w : World) (hs : s.size ≤ 140737488355328) : Calls Try.prog 10 #[.string s] w fun e w' => RdA s w e w' := by
  have HS := hide (split_any s w hs)
  have HC := hide check_any
  go_enter Try.func10, Try.ntmps10
  go_wp2_with fail
  refine HS.out.mono ?_
  rintro e w1 ⟨v, m, ok, rfl, own1, hsp, hb1⟩
  cases ok with
  | false =>
    have HR := hide (P.Rd_no hsp)
    clear hsp
    go_wp2
    go_ret2
    exact rdA _ [] 4 rfl (OwnX.nil _ _ _ _ _) HR.out lbOk_nil hb1
  | true =>
    have hmo := sp_ok hsp hs
    have hml := sp_len hsp
    have HSP := hide hsp
    have HMO := hide hmo
    clear hsp hmo
    obtain ⟨a, cap, rfl, ⟨hlc, hmax, hnn⟩, hcase⟩ := OwnM.row own1
    unfold maxLen at hmax
    have hw1 := hb1.size
    go_wp2
    go_loopw [6, 18] (fun x i wr => ∃ (k : Nat) (l : List P.Lb), k ≤ m.length ∧ i = .int .i64 k ∧ m.take k = P.asM l ∧ OwnL wr w1.heap.size x l ∧ Below w1.heap.size w1 wr) (fun _ i _ => m.length - (intOf i).toNat)
    case atStart => exact ⟨0, [], by omega, rfl, rfl, OwnX.nil _ _ _ _ _, Below.refl _ _⟩
    case round =>
      obtain ⟨k, l, hk, rfl, heq, hown, hB⟩ := hrel
      have HQ := hide heq
      have hll : l.length ≤ 10 := by
        have := congrArg List.length heq
        rw [P.asM_len, List.length_take] at this
        omega
      clear heq
      have hbw : Below w.heap.size w wr := Below.next hb1 hB
      by_cases hlt : k < m.length
      · rcases hcase with h | ⟨b, off, rfl, hbs, hcell⟩
        · rw [h] at hlt; simp at hlt
        have j0 : (0 : Int) ≤ (k : Int) := by omega
        have j1 : (k : Int) < (m.length : Int) := by omega
        obtain ⟨x, hx⟩ : ∃ x, m[k]? = some x := ⟨_, List.getElem?_eq_getElem hlt⟩
        obtain ⟨g0, g1, g2⟩ := RowM.at hcell hx
        have q0 := (hB.cell (p := ⟨b, off + k * 3, none⟩) hbs).trans g0
        have q1 := (hB.cell (p := ⟨b, off + k * 3 + 1, none⟩) hbs).trans g1
        have q2 := (hB.cell (p := ⟨b, off + k * 3 + 2, none⟩) hbs).trans g2
        have HX := hide hx
        obtain ⟨xk, xn, xv⟩ := x
        clear hcell g0 g1 g2 hx
        simp only at q0 q1 q2
        have hBW : Below w.heap.size w (wr.alloc (.cells #[.int .i64 xk, .string xn, .string xv] 49)) := hbw.alloc hbw.size _
        have hBW1 : Below w1.heap.size w1 (wr.alloc (.cells #[.int .i64 xk, .string xn, .string xv] 49)) := hB.alloc hB.size _
        have hownW : OwnL (wr.alloc (.cells #[.int .i64 xk, .string xn, .string xv] 49)) w1.heap.size _ l := hown.below ((Below.refl _ wr).alloc (Nat.le_refl _) _) (Nat.le_refl _)
        clear hown
        by_cases hk1 : xk = 1
        · have hk2 : (xk == 1) = true := by simp [hk1]
          have HT : Hid (m.take (k + 1) = P.asM (l ++ [(xn, xv)])) := by
            show _ = _
            rw [P.take_at HX.out, HQ.out, P.asM_app, hk1]
          clear hk1
          go_wp2_with (at_builtin; go_must (refine wp_oneL rfl _ _ rfl w1.heap.size w1.heap.size w1 _ _ l (xn, xv) hownW hBW1 (Nat.le_refl _) rfl _ rfl (by simp) (by omega) hBW1.size ?_); intro v2 w2 own2 hb2 _ _)
          go_roundw
          case rel => exact ⟨k + 1, l ++ [(xn, xv)], by omega, by go_num, HT.out, own2, hb2⟩
          case measure => simp [intOf]; omega
        · have hk2 : (xk == 1) = false := by simp [hk1]
          have HR := hide (P.Rd_kind HSP.out (List.mem_of_getElem? HX.out) hk1)
          clear hk1
          go_wp2
          go_ret2
          exact rdA _ [] 4 rfl (OwnX.nil _ _ _ _ _) HR.out lbOk_nil hBW
      · have hd : decide ((k : Int) < (m.length : Int)) = false := by simp; omega
        have HM : Hid (m = P.asM l) := by
          show _ = _
          rw [← HQ.out, List.take_of_length_le (by omega)]
        have hlo : LbOk l := by
          intro x hx
          have := HMO.out (1, x.1, x.2) (by rw [HM.out]; exact List.mem_map.2 ⟨x, hx, rfl⟩)
          exact this.2
        have HCl := hide (HC.out _ l wr (OwnL.row hown) hlo)
        by_cases hz : P.chk l = 0
        · have HR := hide (P.Rd_ok HSP.out HM.out hz)
          rw [hz] at HCl
          clear hz
          go_wp2_with (go_at_call 12; refine HCl.out.mono ?_; rintro e w2 ⟨rfl, hc2⟩)
          go_ret2
          exact rdA _ l 0 rfl ((hown.below hc2 (Nat.le_refl _)).base hw1) HR.out hlo (Below.next hbw hc2)
        · have HR := hide (P.Rd_bad HSP.out HM.out hz)
          have hz2 : (P.chk l == 0) = false := by simp [hz]
          generalize P.chk l = c at HCl hz2
          clear hz
          go_wp2_with (go_at_call 12; refine HCl.out.mono ?_; rintro e w2 ⟨rfl, hc2⟩)
          go_ret2
          exact rdA _ [] 4 rfl (OwnX.nil _ _ _ _ _) HR.out lbOk_nil (Below.next hbw hc2)
end Go.Proofs.Ythdccpgjiogiaaa
