/- What Not answers. -/
import Derived.Test.YtlghnnmgbdjgoaaSetB
import Derived.Deep.OwnRows
namespace Go.Proofs.Ytlghnnmgbdjgoaa
open Go.RowKit Go.Sort
set_option linter.unusedVariables false
theorem infoO : (Try.prog.info? 4).map (fun i => (i.zero, i.size, i.bytes)) = some (some (.bool false), 1, 1) := by kernel_rfl
/-- How the first loop stands. -/
def MarkAt (w : World) (g n : Nat) (l : List Int) (i : Value) (wr : World) : Prop :=
  ∃ k : Nat, k ≤ l.length ∧ i = .int .i64 k ∧ wr.rowIs g 4 n (fun j => .bool ((l.take k).contains (j : Int))) ∧ Below w.heap.size w wr
/-- How the second loop stands. -/
def LeftAt (w : World) (n : Nat) (l : List Int) (i v : Value) (wr : World) : Prop :=
  ∃ k : Nat, k ≤ n ∧ i = .int .i64 k ∧ OwnI wr w.heap.size v (Q.notL k l) ∧ Below w.heap.size w wr
theorem take_has (l : List Int) (k : Nat) (h : k < l.length) (j : Int) : (l.take (k + 1)).contains j = ((l.take k).contains j || j == l.getD k 0) := by
  have e : l.take (k + 1) = l.take k ++ [l.getD k 0] := by rw [List.take_add_one, List.getElem?_eq_getElem h]; simp [List.getD_eq_getElem?_getD, List.getElem?_eq_getElem h]
  rw [e, List.contains_append, List.contains_cons, List.contains_nil, Bool.or_false]
theorem not_err (n : Int) (v : Value) (l : List Int) (w : World) (h : RowK .i64 w v l) (hn : n < 0 ∨ 1000 < n) :
    Calls Try.prog 22 #[.int .i64 n, v] w fun e w' => e = .returned (.tuple #[.slice none 0 0, .int .i64 1]) ∧ w' = w := by
  obtain ⟨a, ca, rfl, _⟩ := h
  by_cases h0 : n < 0
  · clear hn
    have t0 : decide (n < 0) = true := by simpa using h0
    go_enter Try.func22, Try.ntmps22
    go_wp2
    go_ret2
    exact ⟨rfl, rfl⟩
  · have t0 : decide (n < 0) = false := by simpa using h0
    have t1 : decide (n > 1000) = true := by simp; omega
    clear hn h0
    go_enter Try.func22, Try.ntmps22
    go_wp2
    go_ret2
    exact ⟨rfl, rfl⟩
theorem mark_keep {l : List Int} {k n : Nat} {g : Nat} {wr : World} (hm : wr.rowIs g 4 n (fun j => .bool ((l.take k).contains (j : Int)))) (hk : k < l.length) (hx : l.getD k 0 < 0 ∨ (n : Int) ≤ l.getD k 0) :
    wr.rowIs g 4 n (fun j => .bool ((l.take (k + 1)).contains (j : Int))) :=
  hm.congr (fun j hj => by
    rw [take_has l k hk]
    have : ((j : Int) == l.getD k 0) = false := beq_eq_false_iff_ne.2 (by omega)
    rw [this, Bool.or_false])
theorem mark_set {l : List Int} {k n p : Nat} {g : Nat} {wr : World} (hm : wr.rowIs g 4 n (fun j => .bool ((l.take k).contains (j : Int)))) (hk : k < l.length) (hx : l.getD k 0 = (p : Int)) :
    (wr.setCell ⟨g, p, none⟩ (.bool true)).rowIs g 4 n (fun j => .bool ((l.take (k + 1)).contains (j : Int))) :=
  (hm.set p (.bool true)).congr (fun j hj => by
    rw [take_has l k hk, hx]
    by_cases h : j = p
    · subst h; simp
    · have : ((j : Int) == (p : Int)) = false := beq_eq_false_iff_ne.2 (by omega)
      rw [this, Bool.or_false]; simp [h])
theorem row_place {w : World} {a : Option Addr} {n ca : Nat} {l : List Int} (h : RowK .i64 w (.slice a n ca) l) (k : Nat) (hk : k < l.length) :
    ∃ b off, a = some ⟨b, off, none⟩ ∧ b < w.heap.size ∧ w.cell? ⟨b, off + k, none⟩ = some (.int .i64 (l.getD k 0)) := by
  obtain ⟨a', c, hv, _, hcase⟩ := h
  simp only [Value.slice.injEq] at hv
  obtain ⟨rfl, _, _⟩ := hv
  rcases hcase with h | ⟨b, off, rfl, hb, hc⟩
  · subst h; simp at hk
  · exact ⟨b, off, rfl, hb, hc k hk⟩
set_option maxRecDepth 100000 in
set_option maxHeartbeats 2000000 in
theorem not_ok (n : Nat) (v : Value) (l : List Int) (w : World) (h : RowK .i64 w v l) (hn : n ≤ 1000) :
    Calls Try.prog 22 #[.int .i64 n, v] w fun e w' => ∃ v', e = .returned (.tuple #[v', .int .i64 0]) ∧ OwnI w' w.heap.size v' (Q.notL n l) ∧ Below w.heap.size w w' := by
  have HR : Hid (∃ a ca, v = .slice a l.length ca ∧ RowK .i64 w v l) := by obtain ⟨a, ca, h1, _⟩ := id h; exact ⟨a, ca, h1, h⟩
  obtain ⟨a, ca, rfl, ⟨hlc, hmx, _⟩, _⟩ := h
  have HP : Hid (∀ k, k < l.length → ∃ b off, a = some ⟨b, off, none⟩ ∧ b < w.heap.size ∧ w.cell? ⟨b, off + k, none⟩ = some (.int .i64 (l.getD k 0))) := by
    obtain ⟨_, _, _, h⟩ := HR.out
    exact fun k hk => row_place h k hk
  clear HR
  unfold maxLen at hmx
  have hr := run_make_row' (P := Try.prog) 82 4 (.bool false) 1 Try.underlying82 infoO rfl .i64 .i64 n (by omega) (by omega) w
  have HM := hide (World.rowIs_made w (.bool false) n 4)
  have HB := hide ((Below.refl w.heap.size w).alloc (Nat.le_refl _) (.cells (madeCells #[.bool false] n) 4))
  have t0 : decide ((n : Int) < 0) = false := by simp
  have t1 : decide ((n : Int) > 1000) = false := by simp; omega
  have n0 : (n : Int) ≤ 1000 := by omega
  generalize w.alloc (.cells (madeCells #[.bool false] n) 4) = w1 at hr HM HB
  go_enter Try.func22, Try.ntmps22
  go_wp2
  clear hr
  go_loopw [22] (fun i wr => MarkAt w w.heap.size n l i wr) (fun i _ => l.length - (intOf i).toNat)
  case atStart => exact ⟨0, by omega, rfl, HM.out.congr (fun i _ => by simp), HB.out⟩
  case round =>
    obtain ⟨k, hk, rfl, hm, hb⟩ := hrel
    clear HM HB
    by_cases hlt : k < l.length
    · obtain ⟨b, off, rfl, hbs, hc0⟩ := HP.out k hlt
      have hc := (hb.cell (p := ⟨b, off + k, none⟩) hbs).trans hc0
      have HK := hide (fun h => mark_keep hm hlt h)
      have HS := hide (fun p h => mark_set (p := p) hm hlt h)
      have HB := hide hb
      have HF := hide (fun p : Nat => hm.frozen p)
      have HC := hide (fun p (h : p < n) => hm.cell h)
      clear hm hb hc0
      have j0 : (0 : Int) ≤ (k : Int) := by omega
      have j1 : (k : Int) < (l.length : Int) := by omega
      generalize l.getD k 0 = x at hc HK HS
      by_cases hx : 0 ≤ x
      · have t2 : decide (0 ≤ x) = true := by simpa using hx
        by_cases hy : x < n
        · have t3 : decide (x < n) = true := by simpa using hy
          obtain ⟨p, rfl⟩ := Int.eq_ofNat_of_zero_le hx
          have hf := HF.out p
          have hcp := HC.out p (by omega)
          go_wp2
          go_roundw
          case rel => exact ⟨k + 1, by omega, by go_num, HS.out p rfl, Below.setCell HB.out (Nat.le_refl _) _⟩
          case measure => simp [intOf]; omega
        · have t3 : decide (x < n) = false := by simpa using hy
          go_wp2
          go_roundw
          case rel => exact ⟨k + 1, by omega, by go_num, HK.out (.inr (by omega)), HB.out⟩
          case measure => simp [intOf]; omega
      · have t2 : decide (0 ≤ x) = false := by simpa using hx
        go_wp2
        go_roundw
        case rel => exact ⟨k + 1, by omega, by go_num, HK.out (.inl (by omega)), HB.out⟩
        case measure => simp [intOf]; omega
    · obtain rfl : k = l.length := by omega
      rw [List.take_length] at hm
      have hd : decide ((l.length : Int) < (l.length : Int)) = false := by simp
      have HB := hide hb
      have hlt2 := hm.lt
      have HC := hide (fun p (h : p < n) => hm.cell h)
      clear hm hb hlt
      go_wp2
      clear hd
      obtain ⟨w2, hw2⟩ : ∃ w2, w2 = wr := ⟨_, rfl⟩
      subst hw2
      go_loopw [39, 9] (fun i v w3 => LeftAt w2 n l i v w3) (fun i _ _ => n - (intOf i).toNat)
      case atStart => exact ⟨0, by omega, rfl, OwnK.nil _ _ _ _, Below.refl _ _⟩
      case round =>
        obtain ⟨k, hk, rfl, own, hb⟩ := hrel
        by_cases hlt : k < n
        · have hc := (hb.cell (p := ⟨w.heap.size, k, none⟩) hlt2).trans (HC.out k hlt)
          have j0 : (0 : Int) ≤ (k : Int) := by omega
          have j1 : (k : Int) < (n : Int) := by omega
          have HN := hide (Q.notL_succ k l)
          have HL := hide (Q.notL_len k l)
          have HS2 := hide hb.size
          cases hgone : l.contains (k : Int)
          · rw [hgone] at hc HN
            have hl8 : ((Q.notL k l).length + 1) * 8 ≤ 140737488355328 := by have := HL.out; omega
            clear hgone
            go_wp2_with (at_builtin; go_must (refine wp_app1K rfl _ _ _ 3 .i64 8 rfl Try.underlying37 infoI ⟨by omega, by omega⟩ w2.heap.size w2.heap.size w2 _ _ (Q.notL k l) (k : Int) own hb (Nat.le_refl _) rfl rfl hl8 HS2.out ?_); intro v' w6 own6 bl6 sz6 hg6)
            obtain ⟨a6, c6, hv6⟩ := own6.shape
            subst hv6
            go_roundw
            case rel => exact ⟨k + 1, by omega, by go_num, by rw [HN.out]; exact own6, bl6⟩
            case measure => simp [intOf]; omega
          · rw [hgone] at hc HN
            clear hgone
            go_wp2
            go_roundw
            case rel => exact ⟨k + 1, by omega, by go_num, by rw [HN.out]; simpa using own, hb⟩
            case measure => simp [intOf]; omega
        · obtain rfl : k = n := by omega
          have hd : decide ((k : Int) < (k : Int)) = false := by simp
          obtain ⟨a6, c6, hv6⟩ := own.shape
          subst hv6
          go_wp2
          go_ret2
          exact ⟨_, rfl, OwnK.base own HB.out.size, Below.next HB.out hb⟩
end Go.Proofs.Ytlghnnmgbdjgoaa
