/- Several texts in one. -/
import Derived.Test.YtcaidfffmllfeaaKitHAll
/- What lessened answers. -/
namespace Go.Proofs.Ytcaidfffmllfeaa
open Go.RowKit
set_option linter.unusedVariables false
/-- 'append(b, x)' of one count to a row of the call's own. -/
theorem wp_oneC {ops : Array Oper} {rest : List Oper} {o : Oper} {a : Act} {Q : Exit → Act → World → Prop} (hgd : o.guard = none) (s x : Operand)
    (ho : o.op = .call { callee := .builtin .append, args := #[s, x], argTypes := #[22, 22] })
    (B base : Nat) (w0 w : World) (v : Value) (acc : List P.Ct) (y : P.Ct) (hown : OwnC w base v acc) (hb : Below B w0 w) (hB : B ≤ base) (hs : a.eval s = v)
    (hx : a.eval x = .slice (some ⟨w.heap.size, 0, none⟩) 1 1) (hlen : (acc.length + 1) * 24 ≤ 140737488355328) (hbase : base ≤ w.heap.size) (hBw : B ≤ w.heap.size)
    (h : ∀ v' w', OwnC w' base v' (acc ++ [y]) → Below B w0 w' → w.heap.size < w'.heap.size → w.grownBy w' v.ownBlock → wpList Try.prog ops Q rest (a.put o.dst v') w') :
    wpList Try.prog ops Q (o :: rest) a (w.alloc (.cells #[.string y.1, .int .i64 y.2] 50)) :=
  wp_oneX (e := ctC) (k := 2) (bt := 24) (tS := 22) (tE := 50) (z := zeroC) ctC_len ctC_one (by decide) (by decide) rfl Try.underlying22 infoC hgd s x ho B base w0 w v acc y #[.string y.1, .int .i64 y.2] rfl
    hown hb hB hs hx hlen hbase hBw h
namespace P
theorem les_snoc {l : List Ct} {k : Nat} {y : Ct} (h : l[k]? = some y) (x : Int) : les (l.take (k + 1)) x = les (l.take k) x ++ (if x < y.2 then [(y.1, y.2 - x)] else []) := by
  unfold les
  rw [List.take_add_one, h, List.filter_append, List.map_append]
  congr 1
  by_cases h1 : x < y.2
  · rw [if_pos h1]; simp [h1]
  · rw [if_neg h1]; simp [h1]
theorem les_le (l : List Ct) (x : Int) : (les l x).length ≤ l.length := by unfold les; rw [List.length_map]; exact List.length_filter_le _ _
end P
/-- How the loop of lessened stands. -/
def LesAt (w : World) (l : List P.Ct) (x : Int) (i vl : Value) (wr : World) : Prop :=
  ∃ k : Nat, k ≤ l.length ∧ i = .int .i64 k ∧ OwnC wr w.heap.size vl (P.les (l.take k) x) ∧ Below w.heap.size w wr
set_option maxHeartbeats 1000000 in
theorem lessened_any (v : Value) (l : List P.Ct) (x : Int) (w : World) (hr : RowC w v l) (hn : l.length ≤ 1000) (hp : ∀ y ∈ l, 0 < y.2 ∧ y.2 ≤ 4000000000) (hx : 0 ≤ x ∧ x ≤ 4000000000) :
    Calls Try.prog 39 #[v, .int .i64 x] w fun e w' => ∃ v', e = .returned v' ∧ OwnC w' w.heap.size v' (P.les l x) ∧ Below w.heap.size w w' := by
  obtain ⟨a, cap, rfl, ⟨hlc, hmax, hnn⟩, hcase⟩ := hr
  unfold maxLen at hmax
  go_enter Try.func39, Try.ntmps39
  go_wp2
  go_loopw [10, 5] (fun i vl wr => LesAt w l x i vl wr) (fun i _ _ => l.length - (intOf i).toNat)
  case atStart => exact ⟨0, by omega, rfl, OwnX.nil _ _ _ _ _, Below.refl _ _⟩
  case round =>
    obtain ⟨k, hk, rfl, hown, hb⟩ := hrel
    have hsz := hb.size
    by_cases hlt : k < l.length
    · rcases hcase with h | ⟨p, o, rfl, hpl, hc⟩
      · rw [h] at hlt; simp at hlt
      obtain ⟨y, hy⟩ : ∃ y, l[k]? = some y := ⟨_, List.getElem?_eq_getElem hlt⟩
      obtain ⟨g0, g1⟩ := RowC.at hc hy
      replace g0 := (hb.cell (p := ⟨p, o + k * 2, none⟩) hpl).trans g0
      replace g1 := (hb.cell (p := ⟨p, o + k * 2 + 1, none⟩) hpl).trans g1
      have HN := hide (P.les_snoc hy x)
      have hlJ : (P.les (l.take k) x).length ≤ 1000 := by have := P.les_le (l.take k) x; simp at this; omega
      obtain ⟨hy0, hy1⟩ := hp y (List.mem_of_getElem? hy)
      obtain ⟨s0, s1⟩ := y
      simp only at g0 g1 HN hy0 hy1
      generalize P.les (l.take k) x = J at *
      clear hc hy
      have n0 : (0 : Int) ≤ (k : Int) := by omega
      have n1 : (k : Int) < (l.length : Int) := by omega
      have o5 := hown.below ((Below.refl _ _).alloc (Nat.le_refl _) (.cells #[.string s0, .int .i64 s1] 50)) (Nat.le_refl _)
      have b5 := hb.alloc hsz (.cells #[.string s0, .int .i64 s1] 50)
      have s5 := b5.size
      have z5 : (wr.alloc (.cells #[.string s0, .int .i64 s1] 50)).heap.size = wr.heap.size + 1 := by simp
      clear hown hb
      by_cases h1 : x < s1
      · rw [if_pos h1] at HN
        have hd1 : decide (x < s1) = true := by simpa using h1
        go_wp2_with (at_builtin; go_must (refine wp_oneC rfl (.tmp 18) (.tmp 26) rfl w.heap.size w.heap.size w (wr.alloc (.cells #[.string s0, .int .i64 s1] 50)) _ J (s0, s1 - x) o5 b5 (Nat.le_refl _) rfl (show Value.slice (some ⟨wr.heap.size + 1, 0, none⟩) 1 1 = _ by rw [z5]) (by omega) s5 s5 ?_); intro v' w6 own6 bl6 sz6 _)
        go_roundw
        case rel => exact ⟨k + 1, by omega, by go_num, by rw [HN.out]; exact own6, bl6⟩
        case measure => simp [intOf]; omega
      · have t1 : decide (x < s1) = false := by simpa using h1
        rw [if_neg h1, List.append_nil] at HN
        go_wp2
        go_roundw
        case rel => exact ⟨k + 1, by omega, by go_num, by rw [HN.out]; exact o5, b5⟩
        case measure => simp [intOf]; omega
    · have hd : decide ((k : Int) < (l.length : Int)) = false := by simp; omega
      obtain rfl : k = l.length := by omega
      rw [List.take_length] at hown
      go_wp2
      go_ret
      exact ⟨_, rfl, hown, hb⟩
end Go.Proofs.Ytcaidfffmllfeaa
