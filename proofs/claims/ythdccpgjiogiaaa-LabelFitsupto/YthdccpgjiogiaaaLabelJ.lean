/- What addQuoted, join, asMatches, Text and MatchText answer. -/
import Derived.Test.YthdccpgjiogiaaaLabelG
import Derived.Lib.AppendStr
import Derived.Laws.BytesArg
namespace Go.Proofs.Ythdccpgjiogiaaa
open Go.RowKit
set_option linter.unusedVariables false
theorem conv_rowB {w : World} {v : Value} {l : List Int} (h : RowB w v l) : (convert 67 9 v).run Try.prog w = .ok (.string (strOfNums l)) w := by
  obtain ⟨a, cap, rfl, hmax, hcase⟩ := h
  rcases hcase with h | ⟨b, off, rfl, hbs, hcell⟩
  · subst h
    rw [run_convert_bytes_string w 67 9 5 a _ _ Try.underlying67 Try.underlying5 Try.underlying9]
    cases a <;> simp [Conv.bytesToString, loadCells]
    all_goals rfl
  · exact run_convert_bytes_arg w 67 5 Try.underlying67 Try.underlying5 b off _ cap l rfl hcell 9 Try.underlying9
/-- Bytes as numbers. -/
def P.bi (l : List UInt8) : List Int := l.map fun c => (c.toNat : Int)
theorem P.bi_app (a b : List UInt8) : P.bi (a ++ b) = P.bi a ++ P.bi b := by simp [P.bi]
theorem P.bi_len (l : List UInt8) : (P.bi l).length = l.length := by simp [P.bi]
theorem P.bi_str (l : List UInt8) : strOfNums (P.bi l) = ⟨l.toArray⟩ := by
  apply P.dl_inj
  show (strOfNums (P.bi l)).data.toList = l
  rw [strOfNums_data, P.bi, List.map_map]
  conv => rhs; rw [← List.map_id l]
  apply List.map_congr_left
  intro c _
  simp
theorem P.bi_cells (s : ByteArray) : Lib.strCells s = (P.bi (P.dl s)).map (Value.int .u8) := by simp [Lib.strCells, P.bi]
/-- 'append(b, s...)' of a text to a row of bytes of the call's own. -/
theorem wp_appStr {ops : Array Oper} {rest : List Oper} {o : Oper} {a : Act} {Q : Exit → Act → World → Prop} (hgd : o.guard = none) (sl x : Operand)
    (ho : o.op = .call { callee := .builtin .append, args := #[sl, x], argTypes := #[67, 9] })
    (B base : Nat) (w0 w : World) (v : Value) (acc : List Int) (s : ByteArray) (hown : OwnB w base v acc) (hb : Below B w0 w) (hB : B ≤ base) (hs : a.eval sl = v)
    (hx : a.eval x = .string s) (hlen : acc.length + s.size ≤ 140737488355328) (hbase : base ≤ w.heap.size)
    (h : ∀ v' w', OwnB w' base v' (acc ++ P.bi (P.dl s)) → Below B w0 w' → w.heap.size ≤ w'.heap.size → w.grownBy w' v.ownBlock → wpList Try.prog ops Q rest (a.put o.dst v') w') :
    wpList Try.prog ops Q (o :: rest) a w := by
  obtain ⟨i0, hi, hz0, hz1, hz2⟩ := info_parts Try.info5
  refine Lib.wpList_append_own_string _ hgd sl x 67 9 ho base 5 i0 Try.underlying67 Try.underlying9 hi hz0 hz1 hz2 v _ _ hs hown s hx (by unfold maxLen; omega) hlen hbase ?_
  intro v' w' ho' hg _
  refine h v' w' ?_ (hb.grown hg (by omega) ?_) hg.size hg
  · have e1 : (acc ++ P.bi (P.dl s)).length = acc.length + s.size := by rw [List.length_append, P.bi_len, ← P.dl_size]
    show w'.ownsRow base 5 1 v' (acc ++ P.bi (P.dl s)).length ((acc ++ P.bi (P.dl s)).map (Value.int .u8))
    rw [e1, List.map_append, ← P.bi_cells]; exact ho'
  · intro k hk; have := (World.ownsRow.lt hown k hk).1; omega

theorem P.u8 (c : UInt8) : ((c.toNat : Int).toNat).toUInt8 = c := by simp
/-- Where a byte stands among those that are shielded. -/
def P.shI (c : UInt8) : Int := if c = 34 then 0 else if c = 92 then 1 else if c = 10 then 2 else -1
theorem P.shI_eq (c : UInt8) : Lib.indexByte [34, 92, 10] c = P.shI c := by
  unfold P.shI
  by_cases h1 : c = 34
  · subst h1; decide
  by_cases h2 : c = 92
  · subst h2; decide
  by_cases h3 : c = 10
  · subst h3; decide
  rw [if_neg h1, if_neg h2, if_neg h3]
  simp [Lib.indexByte, Ne.symm h1, Ne.symm h2, Ne.symm h3]
theorem shielded_any (c : UInt8) (w : World) : Calls Try.prog 52 #[.string ⟨#[34, 92, 10]⟩, .int .u8 (c.toNat : Int)] w fun e w' => e = .returned (.int .i64 (P.shI c)) ∧ w' = w := by
  have h := Try.strings_IndexByte ⟨#[34, 92, 10]⟩ (c.toNat : Int) w
  rw [P.u8] at h
  have e : Lib.indexByte (⟨#[34, 92, 10]⟩ : ByteArray).data.toList c = P.shI c := P.shI_eq c
  rw [e] at h
  exact h
theorem esc_take {s : ByteArray} {k : Nat} (h : k < s.size) : P.esc ((P.dl s).take (k + 1)) = P.esc ((P.dl s).take k) ++ P.enc s[k] := by
  have hk : k < (P.dl s).length := by rw [← P.dl_size]; exact h
  rw [List.take_succ_eq_append_getElem hk, P.esc_app, P.esc_one]
  rfl
end Go.Proofs.Ythdccpgjiogiaaa
