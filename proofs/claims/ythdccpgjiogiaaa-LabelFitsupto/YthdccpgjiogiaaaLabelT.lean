/- What asMatches, Text and MatchText answer. -/
import Derived.Test.YthdccpgjiogiaaaLabelL
namespace Go.Proofs.Ythdccpgjiogiaaa
open Go.RowKit
set_option linter.unusedVariables false
/-- One match put behind a row of matches, the new block's place told apart. -/
theorem wp_oneM {ops : Array Oper} {rest : List Oper} {o : Oper} {a : Act} {Q : Exit → Act → World → Prop} (hgd : o.guard = none) (s x : Operand)
    (ho : o.op = .call { callee := .builtin .append, args := #[s, x], argTypes := #[34, 34] })
    (B base : Nat) (w0 w : World) (v : Value) (acc : List P.Mt) (y : P.Mt) (hown : OwnM w base v acc) (hb : Below B w0 w) (hB : B ≤ base) (hs : a.eval s = v) (g : Nat)
    (hx : a.eval x = .slice (some ⟨g, 0, none⟩) 1 1) (hgs : g = w.heap.size) (hlen : (acc.length + 1) * 40 ≤ 140737488355328) (hbase : base ≤ w.heap.size)
    (h : ∀ v' w', OwnM w' base v' (acc ++ [y]) → Below B w0 w' → w.heap.size < w'.heap.size → w.grownBy w' v.ownBlock → wpList Try.prog ops Q rest (a.put o.dst v') w') :
    wpList Try.prog ops Q (o :: rest) a (w.alloc (.cells #[.int .i64 y.1, .string y.2.1, .string y.2.2] 49)) := by
  subst hgs
  exact wp_oneX mtC_len mtC_one (by decide) (by decide) rfl Try.underlying34 infoM hgd s x ho B base w0 w v acc y _ rfl hown hb hB hs hx hlen hbase (by omega) h
theorem wp_oneL {ops : Array Oper} {rest : List Oper} {o : Oper} {a : Act} {Q : Exit → Act → World → Prop} (hgd : o.guard = none) (s x : Operand)
    (ho : o.op = .call { callee := .builtin .append, args := #[s, x], argTypes := #[22, 22] })
    (B base : Nat) (w0 w : World) (v : Value) (acc : List P.Lb) (y : P.Lb) (hown : OwnL w base v acc) (hb : Below B w0 w) (hB : B ≤ base) (hs : a.eval s = v) (g : Nat)
    (hx : a.eval x = .slice (some ⟨g, 0, none⟩) 1 1) (hgs : g = w.heap.size) (hlen : (acc.length + 1) * 32 ≤ 140737488355328) (hbase : base ≤ w.heap.size)
    (h : ∀ v' w', OwnL w' base v' (acc ++ [y]) → Below B w0 w' → w.heap.size < w'.heap.size → w.grownBy w' v.ownBlock → wpList Try.prog ops Q rest (a.put o.dst v') w') :
    wpList Try.prog ops Q (o :: rest) a (w.alloc (.cells #[.string y.1, .string y.2] 58)) := by
  subst hgs
  exact wp_oneX lbC_len lbC_one (by decide) (by decide) rfl Try.underlying22 infoL hgd s x ho B base w0 w v acc y _ rfl hown hb hB hs hx hlen hbase (by omega) h
theorem P.asM_take {l : List P.Lb} {k : Nat} {x : P.Lb} (h : l[k]? = some x) : P.asM (l.take (k + 1)) = P.asM (l.take k) ++ [(1, x.1, x.2)] := by
  rw [P.take_at h]; simp [P.asM]
theorem P.asM_len (l : List P.Lb) : (P.asM l).length = l.length := by simp [P.asM]
set_option maxHeartbeats 1000000 in
theorem asMatches_any (v : Value) (l : List P.Lb) (w : World) (hr : RowL w v l) (hs : l.length ≤ 10) : Calls Try.prog 29 #[v] w fun e w' => ∃ v', e = .returned v' ∧ OwnM w' w.heap.size v' (P.asM l) ∧ Below w.heap.size w w' := by
  obtain ⟨a, cap, rfl, ⟨hlc, hmax, hnn⟩, hcase⟩ := hr
  unfold maxLen at hmax
  go_enter Try.func29, Try.ntmps29
  go_wp2
  go_loopw [3, 8] (fun x i wr => ∃ (k : Nat), k ≤ l.length ∧ i = .int .i64 k ∧ OwnM wr w.heap.size x (P.asM (l.take k)) ∧ Below w.heap.size w wr) (fun _ i _ => l.length - (intOf i).toNat)
  case atStart => exact ⟨0, by omega, rfl, OwnX.nil _ _ _ _ _, Below.refl _ _⟩
  case round =>
    obtain ⟨k, hk, rfl, hown, hB⟩ := hrel
    have hl2 : (P.asM (l.take k)).length ≤ 10 := by rw [P.asM_len, List.length_take]; omega
    by_cases hlt : k < l.length
    · rcases hcase with h | ⟨b, off, rfl, hbs, hcell⟩
      · rw [h] at hlt; simp at hlt
      have j0 : (0 : Int) ≤ (k : Int) := by omega
      have j1 : (k : Int) < (l.length : Int) := by omega
      obtain ⟨x, hx⟩ : ∃ x, l[k]? = some x := ⟨_, List.getElem?_eq_getElem hlt⟩
      obtain ⟨g0, g1⟩ := RowL.at hcell hx
      have q0 := (hB.cell (p := ⟨b, off + k * 2, none⟩) hbs).trans g0
      have q1 := (hB.cell (p := ⟨b, off + k * 2 + 1, none⟩) hbs).trans g1
      have HT := hide (P.asM_take hx)
      obtain ⟨xn, xv⟩ := x
      clear hcell g0 g1 hx
      simp only at q0 q1 HT
      have hBW : Below w.heap.size w (wr.alloc (.cells #[.string xn, .string xv] 58)) := hB.alloc hB.size _
      have hownW : OwnM (wr.alloc (.cells #[.string xn, .string xv] 58)) w.heap.size _ _ := hown.below ((Below.refl _ wr).alloc (Nat.le_refl _) _) (Nat.le_refl _)
      have HOW := hide hownW
      clear hown hownW
      generalize P.asM (l.take k) = T at HT hl2 HOW
      go_wp2_with (at_builtin; go_must (refine wp_oneM rfl _ _ rfl w.heap.size w.heap.size w _ _ T (1, xn, xv) HOW.out hBW (Nat.le_refl _) rfl _ rfl (by simp) (by omega) hBW.size ?_); intro v1 w1 own1 hb1 _ _)
      go_roundw
      case rel => exact ⟨k + 1, by omega, by go_num, by rw [HT.out]; exact own1, hb1⟩
      case measure => simp [intOf]; omega
    · have hd : decide ((k : Int) < (l.length : Int)) = false := by simp; omega
      have HT : Hid (l.take k = l) := List.take_of_length_le (by omega)
      rw [HT.out] at hown
      go_wp2
      go_ret
      exact ⟨_, rfl, hown, hB⟩
/-- What a text's teller answers: the text, or none beside an error. -/
def P.tell (e : Int) (s : ByteArray) : ByteArray := if e = 0 then s else ⟨#[]⟩
theorem ret_se {a b : ByteArray} {c d : Int} (h : a = b) (h2 : c = d) : Ending.returned (.tuple #[.string a, .int .i64 c]) = .returned (.tuple #[.string b, .int .i64 d]) := by rw [h, h2]
set_option maxHeartbeats 1000000 in
theorem text_any (v : Value) (l : List P.Lb) (w : World) (hr : RowL w v l) (hl : LbOk l) : Calls Try.prog 9 #[v] w fun e w' => e = .returned (.tuple #[.string (P.tell (P.chk l) (P.txB (P.asM l))), .int .i64 (P.chk l)]) ∧ Below w.heap.size w w' := by
  have HC := hide (check_any v l w hr hl)
  by_cases h : P.chk l = 0
  · have HM := hide (fun w' (hb : Below w.heap.size w w') => asMatches_any v l w' (hr.below hb (Nat.le_refl _)) (P.chk_len h))
    have HJ := hide (fun v' w' (hb : RowM w' v' (P.asM l)) => join_any v' (P.asM l) w' hb (P.chkM_shrt (P.chk_as h)))
    have HE : Hid (P.tell (P.chk l) (P.txB (P.asM l)) = P.txB (P.asM l)) := by show _ = _; unfold P.tell; rw [if_pos h]
    have H0 := hide h
    rw [h] at HC
    generalize P.chk l = c at H0 HE
    generalize P.tell c (P.txB (P.asM l)) = t at HE
    obtain ⟨ca, cp, rfl, hrest⟩ := hr
    clear hrest h
    go_enter Try.func9, Try.ntmps9
    go_wp2_with fail
    refine HC.out.mono ?_
    rintro e w1 ⟨rfl, hb1⟩
    go_wp2_with fail
    refine (HM.out _ hb1).mono ?_
    rintro e w2 ⟨v2, rfl, own2, hb2⟩
    have hb3 := Below.next hb1 hb2
    go_wp2_with fail
    refine (HJ.out _ _ (OwnM.row own2)).mono ?_
    rintro e w3 ⟨rfl, hb4⟩
    go_wp2
    go_ret2
    exact ⟨ret_se HE.out.symm H0.out.symm, Below.next hb3 hb4⟩
  · have HE : Hid (P.tell (P.chk l) (P.txB (P.asM l)) = ⟨#[]⟩) := by show _ = _; unfold P.tell; rw [if_neg h]
    have hn : (P.chk l == 0) = false := by simp [h]
    generalize P.tell (P.chk l) (P.txB (P.asM l)) = t at HE
    generalize P.chk l = c at hn HC
    obtain ⟨ca, cp, rfl, hrest⟩ := hr
    clear hrest h
    go_enter Try.func9, Try.ntmps9
    go_wp2_with fail
    refine HC.out.mono ?_
    rintro e w1 ⟨rfl, hb1⟩
    go_wp2
    go_ret2
    exact ⟨ret_se HE.out.symm rfl, hb1⟩
set_option maxHeartbeats 1000000 in
theorem matchText_any (v : Value) (m : List P.Mt) (w : World) (hr : RowM w v m) (hl : MtOk m) : Calls Try.prog 17 #[v] w fun e w' => e = .returned (.tuple #[.string (P.tell (P.chkM m) (P.txB m)), .int .i64 (P.chkM m)]) ∧ Below w.heap.size w w' := by
  have HC := hide (checkMatches_any v m w hr hl)
  by_cases h : P.chkM m = 0
  · have HJ := hide (fun w' (hb : Below w.heap.size w w') => join_any v m w' (hr.below hb (Nat.le_refl _)) (P.chkM_shrt h))
    have HE : Hid (P.tell (P.chkM m) (P.txB m) = P.txB m) := by show _ = _; unfold P.tell; rw [if_pos h]
    have H0 := hide h
    rw [h] at HC
    generalize P.chkM m = c at H0 HE
    generalize P.tell c (P.txB m) = t at HE
    obtain ⟨ca, cp, rfl, hrest⟩ := hr
    clear hrest h
    go_enter Try.func17, Try.ntmps17
    go_wp2_with fail
    refine HC.out.mono ?_
    rintro e w1 ⟨rfl, hb1⟩
    go_wp2_with fail
    refine (HJ.out _ hb1).mono ?_
    rintro e w3 ⟨rfl, hb4⟩
    go_wp2
    go_ret2
    exact ⟨ret_se HE.out.symm H0.out.symm, Below.next hb1 hb4⟩
  · have HE : Hid (P.tell (P.chkM m) (P.txB m) = ⟨#[]⟩) := by show _ = _; unfold P.tell; rw [if_neg h]
    have hn : (P.chkM m == 0) = false := by simp [h]
    generalize P.tell (P.chkM m) (P.txB m) = t at HE
    generalize P.chkM m = c at hn HC
    obtain ⟨ca, cp, rfl, hrest⟩ := hr
    clear hrest h
    go_enter Try.func17, Try.ntmps17
    go_wp2_with fail
    refine HC.out.mono ?_
    rintro e w1 ⟨rfl, hb1⟩
    go_wp2
    go_ret2
    exact ⟨ret_se HE.out.symm rfl, hb1⟩
/-- labels(). -/
theorem labels_any (w : World) : Calls Try.prog 24 #[] w fun e w' => e = .returned (.bool true) ∧ Below w.heap.size w w' := by
  have HT : Hid (Calls Try.prog 9 #[.slice none 0 0] w fun e w' => e = .returned (.tuple #[.string ⟨#[123, 125]⟩, .int .i64 0]) ∧ Below w.heap.size w w') := text_any (.slice none 0 0) [] w (RowX.nil _ _ _) (fun x hx => by cases hx)
  go_enter Try.func24, Try.ntmps24
  go_wp2_with fail
  refine HT.out.mono ?_
  rintro e w1 ⟨rfl, hb1⟩
  go_wp2
  go_ret
  exact ⟨rfl, hb1⟩
end Go.Proofs.Ythdccpgjiogiaaa
