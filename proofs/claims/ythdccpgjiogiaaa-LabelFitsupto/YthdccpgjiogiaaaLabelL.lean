/- What join, asMatches, Text and MatchText answer. -/
import Derived.Test.YthdccpgjiogiaaaLabelK
namespace Go.Proofs.Ythdccpgjiogiaaa
open Go.RowKit
set_option linter.unusedVariables false
/-- A match in a box of its own. -/
def BoxM (w : World) (g : Nat) (x : P.Mt) : Prop := w.heap[g]? = some (.cells #[.int .i64 x.1, .string x.2.1, .string x.2.2] 49 (0, 0))
theorem BoxM.c0 {w : World} {g : Nat} {x : P.Mt} (h : BoxM w g x) : w.cell? ⟨g, 0, none⟩ = some (.int .i64 x.1) := by unfold BoxM at h; simp [World.cell?, h]
theorem BoxM.c1 {w : World} {g : Nat} {x : P.Mt} (h : BoxM w g x) : w.cell? ⟨g, 1, none⟩ = some (.string x.2.1) := by unfold BoxM at h; simp [World.cell?, h]
theorem BoxM.c2 {w : World} {g : Nat} {x : P.Mt} (h : BoxM w g x) : w.cell? ⟨g, 2, none⟩ = some (.string x.2.2) := by unfold BoxM at h; simp [World.cell?, h]
theorem BoxM.lt {w : World} {g : Nat} {x : P.Mt} (h : BoxM w g x) : g < w.heap.size := (Array.getElem?_eq_some_iff.1 h).1
theorem BoxM.new (w : World) (x : P.Mt) : BoxM (w.alloc (.cells #[.int .i64 x.1, .string x.2.1, .string x.2.2] 49)) w.heap.size x := heap_alloc_new w _
theorem BoxM.next {w w' : World} {g : Nat} {x : P.Mt} (h : BoxM w g x) (hb : Below w.heap.size w w') : BoxM w' g x := (hb.block g h.lt).trans h
theorem BoxM.grown {w w' : World} {g base : Nat} {x : P.Mt} {v : Value} {acc : List Int} (h : BoxM w g x) (ho : OwnB w base v acc) (hg : w.grownBy w' v.ownBlock) : BoxM w' g x := by
  have hne : v.ownBlock ≠ some g := by
    obtain ⟨_, h2⟩ := ho
    rcases h2 with ⟨rfl, _⟩ | ⟨g', cap, cur, rfl, _, hg', _⟩
    · simp [Value.ownBlock]
    · intro e
      simp [Value.ownBlock] at e
      subst e
      unfold BoxM at h
      rw [h] at hg'
      simp at hg'
  exact (hg.block g h.lt (fun e => hne e.symm)).trans h
theorem P.take_at {α : Type} {l : List α} {k : Nat} {x : α} (h : l[k]? = some x) : l.take (k + 1) = l.take k ++ [x] := by
  have hk : k < l.length := (List.getElem?_eq_some_iff.1 h).1
  rw [List.take_succ_eq_append_getElem hk, (List.getElem?_eq_some_iff.1 h).2]
theorem P.bi_one (c : UInt8) : P.bi [c] = [(c.toNat : Int)] := rfl
theorem P.bi_mtx (x : P.Mt) : P.bi (P.mtx x) = P.bi (P.dl x.2.1) ++ P.bi (P.dl (P.sgB x.1)) ++ P.bi (34 :: (P.esc (P.dl x.2.2) ++ [34])) := by
  rw [P.sgB_dl, ← P.bi_app, ← P.bi_app]
  unfold P.mtx
  rw [List.append_assoc]
theorem P.sgB_size (k : Int) : (P.sgB k).size ≤ 2 := by
  have e : (P.sgB k).size = (P.sgK k).length := by unfold P.sgB; rfl
  rw [e]
  unfold P.sgK
  split
  · decide
  split
  · decide
  split
  · decide
  split
  · decide
  · decide
/-- Texts so short that their matches' text is short. -/
def Shrt (m : List P.Mt) : Prop := m.length ≤ 10 ∧ ∀ x ∈ m, x.2.1.size ≤ 20 ∧ x.2.2.size ≤ 40
theorem P.mtx_len {x : P.Mt} (h1 : x.2.1.size ≤ 20) (h2 : x.2.2.size ≤ 40) : (P.mtx x).length ≤ 110 := by
  have a := P.esc_len (P.dl x.2.2)
  have b := P.sgB_size x.1
  have e : (P.sgB x.1).size = (P.sgK x.1).length := by unfold P.sgB; rfl
  rw [P.dl_size] at h1 h2
  unfold P.mtx
  simp only [List.length_append, List.length_cons, List.length_nil]
  omega
theorem P.jt_len {m : List P.Mt} (h : ∀ x ∈ m, x.2.1.size ≤ 20 ∧ x.2.2.size ≤ 40) : (P.jt m).length ≤ 111 * m.length := by
  induction m with
  | nil => simp [P.jt]
  | cons x m ih =>
    have a := P.mtx_len (h x (by simp)).1 (h x (by simp)).2
    have b := ih fun y hy => h y (by simp [hy])
    rw [P.jt_cons]
    simp only [List.length_append, List.length_cons]
    omega
theorem P.jb_len {m : List P.Mt} (h : ∀ x ∈ m, x.2.1.size ≤ 20 ∧ x.2.2.size ≤ 40) : (P.jb m).length ≤ 111 * m.length := by
  have := P.jt_len h
  unfold P.jb
  simp only [List.length_drop]
  omega
theorem P.txt_len {m : List P.Mt} (h : Shrt m) : (P.txt m).length ≤ 1112 := by
  have := P.jb_len h.2
  have := h.1
  unfold P.txt
  simp only [List.length_append, List.length_cons, List.length_nil]
  omega
theorem P.chkMF_shrt {m : List P.Mt} (h : P.chkMF m = 0) : ∀ x ∈ m, x.2.1.size ≤ 20 ∧ x.2.2.size ≤ 40 := by
  induction m with
  | nil => intro x hx; cases hx
  | cons y m ih =>
    unfold P.chkMF at h
    split at h
    · cases h
    · split at h
      · cases h
      · split at h
        · cases h
        · rename_i h1 h2 h3
          intro x hx
          rcases List.mem_cons.1 hx with rfl | hx
          · refine ⟨?_, by omega⟩
            simp only [Bool.not_eq_false, P.goodN, Bool.and_eq_true, Bool.not_eq_true', Bool.or_eq_false_iff, decide_eq_false_iff_not] at h2
            have := h2.1.1.2
            rw [P.dl_size]; omega
          · exact ih h x hx
theorem P.chkM_shrt {m : List P.Mt} (h : P.chkM m = 0) : Shrt m := by
  refine ⟨P.chkM_len h, ?_⟩
  unfold P.chkM at h
  split at h
  · cases h
  · exact P.chkMF_shrt h
theorem app_len {T : List Int} {s : ByteArray} {a b : Nat} (h : T.length ≤ a) (h2 : s.size ≤ b) : (T ++ P.bi (P.dl s)).length ≤ a + b := by
  rw [List.length_append, P.bi_len, ← P.dl_size]; omega
/-- One byte put behind a row, the new block's place told apart. -/
theorem wp_app1g {ops : Array Oper} {rest : List Oper} {o : Oper} {a : Act} {Q : Exit → Act → World → Prop} (hgd : o.guard = none) (s x : Operand)
    (ho : o.op = .call { callee := .builtin .append, args := #[s, x], argTypes := #[67, 67] })
    (B base : Nat) (w0 w : World) (v : Value) (acc : List Int) (y : Int) (hown : OwnB w base v acc) (hb : Below B w0 w) (hB : B ≤ base) (hs : a.eval s = v) (g : Nat)
    (hx : a.eval x = .slice (some ⟨g, 0, none⟩) 1 1) (hgs : g = w.heap.size) (hlen : acc.length + 1 ≤ 140737488355328) (hbase : base ≤ w.heap.size)
    (h : ∀ v' w', OwnB w' base v' (acc ++ [y]) → Below B w0 w' → w.heap.size < w'.heap.size → w.grownBy w' v.ownBlock → wpList Try.prog ops Q rest (a.put o.dst v') w') :
    wpList Try.prog ops Q (o :: rest) a (w.alloc (.cells #[.int .u8 y] 5)) := by
  subst hgs
  exact wp_app1 hgd s x ho B base w0 w v acc y hown hb hB hs hx hlen hbase h
/-- A text. -/
def P.txB (m : List P.Mt) : ByteArray := ⟨(P.txt m).toArray⟩
set_option maxHeartbeats 1000000 in
theorem join_any (v : Value) (m : List P.Mt) (w : World) (hr : RowM w v m) (hs : Shrt m) : Calls Try.prog 28 #[v] w fun e w' => e = .returned (.string (P.txB m)) ∧ Below w.heap.size w w' := by
  have HZ := hide sign_any
  have HQ := hide addQuoted_any
  obtain ⟨a, cap, rfl, ⟨hlc, hmax, hnn⟩, hcase⟩ := hr
  unfold maxLen at hmax
  obtain ⟨hs1, hs2⟩ := hs
  have HS := hide hs2
  have hown0 : OwnB (w.alloc (.cells #[.int .u8 123] 5)) w.heap.size (.slice (some ⟨w.heap.size, 0, none⟩) 1 1) [123] :=
    BlkB.own (l := [123]) (heap_alloc_new w _) (Nat.le_refl _) (by decide)
  go_enter Try.func28, Try.ntmps28
  go_wp2
  go_loopw [3, 9] (fun x i wr => ∃ (k : Nat), k ≤ m.length ∧ i = .int .i64 k ∧ OwnB wr w.heap.size x (123 :: P.bi (P.jb (m.take k))) ∧ Below w.heap.size w wr) (fun _ i _ => m.length - (intOf i).toNat)
  case atStart => exact ⟨0, by omega, rfl, hown0, (Below.refl _ w).alloc (Nat.le_refl _) _⟩
  case round =>
    obtain ⟨k, hk, rfl, hown, hB⟩ := hrel
    clear hown0
    have hl2 : (123 :: P.bi (P.jb (m.take k))).length ≤ 2000 := by
      have h1 := P.jb_len (m := m.take k) fun x hx => HS.out x (List.mem_of_mem_take hx)
      have h2 : (m.take k).length ≤ k := List.length_take_le _ _
      simp only [List.length_cons, P.bi_len]
      omega
    have hsz := hB.size
    by_cases hlt : k < m.length
    · rcases hcase with h | ⟨b, off, rfl, hbs, hcell⟩
      · rw [h] at hlt; simp at hlt
      have j0 : (0 : Int) ≤ (k : Int) := by omega
      have j1 : (k : Int) < (m.length : Int) := by omega
      obtain ⟨x, hx⟩ : ∃ x, m[k]? = some x := ⟨_, List.getElem?_eq_getElem hlt⟩
      obtain ⟨g0, g1, g2⟩ := RowM.at hcell hx
      have q0 := (hB.cell (p := ⟨b, off + k * 3, none⟩) hbs).trans g0
      have q1 := (hB.cell (p := ⟨b, off + k * 3 + 1, none⟩) hbs).trans g1
      have q2 := (hB.cell (p := ⟨b, off + k * 3 + 2, none⟩) hbs).trans g2
      have HX := hide hx
      have hxs := HS.out x (List.mem_of_getElem? hx)
      have HT := hide (P.take_at hx)
      have HM := hide (P.bi_mtx x)
      have bx := BoxM.new wr x
      obtain ⟨xk, xn, xv⟩ := x
      clear hcell g0 g1 g2 hx
      simp only at q0 q1 q2 hxs HM bx
      obtain ⟨hn20, hv40⟩ := hxs
      have hBW : Below w.heap.size w (wr.alloc (.cells #[.int .i64 xk, .string xn, .string xv] 49)) := hB.alloc hB.size _
      have hownW : OwnB (wr.alloc (.cells #[.int .i64 xk, .string xn, .string xv] 49)) w.heap.size _ _ := hown.below ((Below.refl _ wr).alloc (Nat.le_refl _) _) (Nat.le_refl _)
      have hszW : w.heap.size ≤ (wr.alloc (.cells #[.int .i64 xk, .string xn, .string xv] 49)).heap.size := hBW.size
      have HG := hide (fun w' => HZ.out xk w')
      have hg2 := P.sgB_size xk
      generalize P.sgB xk = sg at HG HM hg2
      clear hown
      have HBX := hide bx
      have HOW := hide hownW
      by_cases hk0 : 0 < k
      · have HJ : Hid (123 :: P.bi (P.jb (m.take (k + 1))) = 123 :: P.bi (P.jb (m.take k)) ++ [44] ++ P.bi (P.dl xn) ++ P.bi (P.dl sg) ++ P.bi (34 :: (P.esc (P.dl xv) ++ [34]))) := by
          show _ = _
          have hne : m.take k ≠ [] := by intro e; have := congrArg List.length e; rw [List.length_take, List.length_nil] at this; omega
          rw [HT.out, P.jb_snoc hne, P.bi_app]
          have : P.bi (44 :: P.mtx (xk, xn, xv)) = 44 :: P.bi (P.mtx (xk, xn, xv)) := rfl
          rw [this, HM.out]
          simp only [List.cons_append, List.append_assoc, List.nil_append]
        clear HM HT
        have hd : decide (0 < (k : Int)) = true := by simp; omega
        generalize 123 :: P.bi (P.jb (m.take k)) = T at HJ hl2 HOW
        clear bx hownW
        have l1 : (T ++ [44]).length ≤ 2001 := by simp only [List.length_append, List.length_cons, List.length_nil]; omega
        go_wp2_with (first
          | (go_at_call 42; refine (HG.out _).mono ?_; rintro e w9 ⟨rfl, rfl⟩)
          | (go_at_call 43; refine (HQ.out v3 _ xv w3 w.heap.size own3 hb3.size (by omega) (by omega)).mono ?_; rintro e w4 ⟨v4, rfl, own4, hb4, hs4⟩)
          | (at_builtin; refine wp_appStr rfl _ _ rfl w.heap.size w.heap.size w _ v2 ((T ++ [44]) ++ P.bi (P.dl xn)) sg own2 hb2 (Nat.le_refl _) rfl rfl (by omega) hb2.size ?_; intro v3 w3 own3 hb3 hs3 hg3; have c2 := (BoxM.grown bx2 own2 hg3).c2; have l3 := app_len l2 hg2; simp only at c2)
          | (at_builtin; refine wp_appStr rfl _ _ rfl w.heap.size w.heap.size w _ _ (T ++ [44]) xn own1 hb1 (Nat.le_refl _) rfl rfl (by omega) hb1.size ?_; intro v2 w2 own2 hb2 hs2 hg2'; have bx2 := BoxM.grown bx1 own1 hg2'; have c0 := bx2.c0; have l2 := app_len l1 hn20; simp only at c0)
          | (at_builtin; refine wp_app1g rfl _ _ rfl w.heap.size w.heap.size w _ _ T 44 HOW.out hBW (Nat.le_refl _) rfl _ rfl (by simp) (by omega) hszW ?_; intro v1 w1 own1 hb1 hs1' hg1; have bx1 := BoxM.grown HBX.out HOW.out hg1; have c1 := bx1.c1; simp only at c1))
        have hb5 : Below w.heap.size w w4 := hb3.trans hb4
        go_roundw
        case rel => exact ⟨k + 1, by omega, by go_num, by rw [HJ.out]; exact own4, hb5⟩
        case measure => simp [intOf]; omega
      · have HJ : Hid (123 :: P.bi (P.jb (m.take (k + 1))) = 123 :: P.bi (P.jb (m.take k)) ++ P.bi (P.dl xn) ++ P.bi (P.dl sg) ++ P.bi (34 :: (P.esc (P.dl xv) ++ [34]))) := by
          show _ = _
          have hne : m.take k = [] := by
            have : k = 0 := by omega
            rw [this]; rfl
          rw [HT.out, hne, List.nil_append, P.jb_one, HM.out, P.jb_nil]
          simp only [List.cons_append, List.append_assoc]
          rfl
        clear HM HT
        have hd : decide (0 < (k : Int)) = false := by simp; omega
        generalize 123 :: P.bi (P.jb (m.take k)) = T at HJ hl2 HOW
        clear bx hownW
        have l1 : T.length ≤ 2001 := by omega
        have c1 := (HBX.out).c1
        simp only at c1
        go_wp2_with (first
          | (go_at_call 42; refine (HG.out _).mono ?_; rintro e w9 ⟨rfl, rfl⟩)
          | (go_at_call 43; refine (HQ.out v3 _ xv w3 w.heap.size own3 hb3.size (by omega) (by omega)).mono ?_; rintro e w4 ⟨v4, rfl, own4, hb4, hs4⟩)
          | (at_builtin; refine wp_appStr rfl _ _ rfl w.heap.size w.heap.size w _ v2 (T ++ P.bi (P.dl xn)) sg own2 hb2 (Nat.le_refl _) rfl rfl (by omega) hb2.size ?_; intro v3 w3 own3 hb3 hs3 hg3; have c2 := (BoxM.grown bx2 own2 hg3).c2; have l3 := app_len l2 hg2; simp only at c2)
          | (at_builtin; refine wp_appStr rfl _ _ rfl w.heap.size w.heap.size w _ _ T xn HOW.out hBW (Nat.le_refl _) rfl rfl (by omega) hszW ?_; intro v2 w2 own2 hb2 hs2 hg2'; have bx2 := BoxM.grown HBX.out HOW.out hg2'; have c0 := bx2.c0; have l2 := app_len l1 hn20; simp only at c0))
        have hb5 : Below w.heap.size w w4 := hb3.trans hb4
        go_roundw
        case rel => exact ⟨k + 1, by omega, by go_num, by rw [HJ.out]; exact own4, hb5⟩
        case measure => simp [intOf]; omega
    · have hd : decide ((k : Int) < (m.length : Int)) = false := by simp; omega
      have HF : Hid (strOfNums (123 :: P.bi (P.jb (m.take k)) ++ [125]) = P.txB m) := by
        show _ = _
        rw [List.take_of_length_le (by omega)]
        have : 123 :: P.bi (P.jb m) ++ [125] = P.bi (P.txt m) := by unfold P.txt P.bi; simp
        rw [this, P.bi_str]; rfl
      generalize 123 :: P.bi (P.jb (m.take k)) = T at hown hl2 HF
      go_wp2_with (at_builtin; go_must (refine wp_app1 rfl _ _ rfl w.heap.size w.heap.size w _ _ T 125 hown hB (Nat.le_refl _) rfl rfl (by omega) hsz ?_); intro v1 w1 own1 hb1 hs1' hg1; have hcv := conv_rowB own1.row; rw [HF.out] at hcv)
      go_ret
      exact ⟨rfl, hb1⟩
end Go.Proofs.Ythdccpgjiogiaaa
