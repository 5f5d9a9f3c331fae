/- What takeQuoted answers. -/
import Derived.Test.YthdccpgjiogiaaaLabelR
namespace Go.Proofs.Ythdccpgjiogiaaa
open Go.RowKit
set_option linter.unusedVariables false
theorem step_app1 {ops : Array Oper} {o : Oper} {a : Act} {K : Act → World → Prop} {Q : Exit → Act → World → Prop} {E : Prop} (hgd : o.guard = none) (s x : Operand)
    (ho : o.op = .call { callee := .builtin .append, args := #[s, x], argTypes := #[67, 67] })
    (B base : Nat) (w0 w : World) (v : Value) (acc : List Int) (y : Int) (hown : OwnB w base v acc) (hb : Below B w0 w) (hB : B ≤ base) (hs : a.eval s = v)
    (hx : a.eval x = .slice (some ⟨w.heap.size, 0, none⟩) 1 1) (hlen : acc.length + 1 ≤ 140737488355328) (hbase : base ≤ w.heap.size)
    (h : ∀ v' w', OwnB w' base v' (acc ++ [y]) → Below B w0 w' → w.heap.size < w'.heap.size → w.grownBy w' v.ownBlock → K (a.put o.dst v') w') :
    if Region.wanted o (yielded ops a.tmps) = true then Oper.wp Try.prog o a (w.alloc (.cells #[.int .u8 y] 5)) K Q else E := by
  have hw : Region.wanted o (yielded ops a.tmps) = true := by simp [Region.wanted, hgd]
  rw [if_pos hw]
  obtain ⟨i0, hi, hz0, hz1, hz2⟩ := info_parts Try.info5
  refine wp_append_own _ s x 67 ho base 5 i0 (.int .u8 0) 1 1 Try.underlying67 hi hz0 hz1 hz2 rfl (by decide) v _ _ hs (hown.alloc _) ⟨w.heap.size, 0, none⟩ 1 1 [.int .u8 y] hx rfl ?_ ?_ ?_ ?_ ?_ ?_
  · intro j u hj
    match j, hj with
    | 0, hj => simp at hj; subst hj; simp [Addr.add]
  · intro u hu; simp at hu; subst hu; rfl
  · unfold maxLen; omega
  · omega
  · simp; omega
  · intro v' w' ho' hg _
    refine h v' w' ?_ ((hb.alloc (by omega) _).grown hg (by simp; omega) ?_) ?_ ((World.grownBy_alloc w _ _).trans hg)
    · have e1 : (acc ++ [y]).length = acc.length + 1 := by simp
      have e2 : (acc ++ [y]).map (Value.int .u8) = acc.map (Value.int .u8) ++ [.int .u8 y] := by simp
      show w'.ownsRow base 5 1 v' (acc ++ [y]).length ((acc ++ [y]).map (Value.int .u8))
      rw [e1, e2]; exact ho'
    · intro k hk; have := (hown.lt k hk).1; omega
    · have := hg.size; simp at this; omega
theorem step_app1d {ops : Array Oper} {o : Oper} {a : Act} {K : Act → World → Prop} {Q : Exit → Act → World → Prop} {E : Prop} (hgd : o.guard = none) (s x : Operand)
    (ho : o.op = .call { callee := .builtin .append, args := #[s, x], argTypes := #[67, 67] })
    (B base : Nat) (w0 w : World) (v : Value) (acc : List Int) (y : Int) (hown : OwnB w base v acc) (hb : Below B w0 w) (hB : B ≤ base) (hs : a.eval s = v)
    (hx : a.eval x = .slice (some ⟨w.heap.size, 0, none⟩) 1 1) (hlen : acc.length + 1 ≤ 140737488355328) (hbase : base ≤ w.heap.size)
    (h : ∀ v' w', OwnB w' base v' (acc ++ [y]) → Below B w0 w' → w.heap.size < w'.heap.size → w.grownBy w' v.ownBlock → K (a.put o.dst v') w') :
    if Region.wanted o (yielded ops a.tmps) = true then Oper.wp Try.prog o a (w.alloc (.cells #[.int .u8 y] 5)).drew K Q else E :=
  step_app1 (ops := ops) hgd s x ho B base w0 w.drew v acc y hown hb.drew hB hs hx hlen hbase fun v' w' a1 a2 a3 a4 => h v' w' a1 a2 a3 ⟨a4.os, a4.tape, a4.output, a4.size, a4.block⟩
/-- A text's length, of a value. -/
def P.strSz : Value → Nat
  | .string s => s.size
  | _ => 0
/-- CutPrefix of one byte. -/
theorem cut_one (c : UInt8) (s : ByteArray) (w : World) : Calls Try.prog 44 #[.string s, .string ⟨#[c]⟩] w fun e w' => (∃ r : ByteArray, e = .returned (.tuple #[.string r, .bool true]) ∧ P.dl s = c :: P.dl r ∧ w' = w) ∨ (∃ r : ByteArray, e = .returned (.tuple #[.string r, .bool false]) ∧ r = s ∧ (∀ t, P.dl s ≠ c :: t) ∧ w' = w) := by
  refine (Try.strings_CutPrefix s ⟨#[c]⟩ w).mono ?_
  rintro e w' ⟨rfl, rfl⟩
  have e1 : (⟨#[c]⟩ : ByteArray).data.toList = [c] := rfl
  rw [e1]
  cases h : Lib.hasPrefix s.data.toList [c] with
  | true => exact .inl ⟨⟨(Lib.trimPrefix s.data.toList [c]).toArray⟩, rfl, P.trim_eq h, rfl⟩
  | false =>
    refine .inr ⟨_, rfl, ?_, ?_, rfl⟩
    · apply P.dl_inj
      show Lib.trimPrefix s.data.toList [c] = s.data.toList
      unfold Lib.trimPrefix
      rw [if_neg (by rw [h]; decide)]
    · intro t ht
      have ht2 : s.data.toList = c :: t := ht
      rw [ht2] at h
      simp [Lib.hasPrefix] at h
/-- What takeQuoted answers. -/
def P.Qt (s v r : List UInt8) (ok : Bool) : Prop := (ok = true ∧ s = 34 :: (P.esc v ++ 34 :: r) ∧ v.length ≤ 40) ∨ (ok = false ∧ ∀ v' r', v'.length ≤ 40 → s ≠ 34 :: (P.esc v' ++ 34 :: r'))
def QtA (s : ByteArray) (w : World) (e : Ending) (w' : World) : Prop := ∃ (v r : ByteArray) (ok : Bool), e = .returned (.tuple #[.string v, .string r, .bool ok]) ∧ P.Qt (P.dl s) (P.dl v) (P.dl r) ok ∧ Below w.heap.size w w' ∧ r.size ≤ s.size
theorem P.Tb_sz {s : List UInt8} {c : UInt8} {n : Nat} (h : P.Tb s c n) (hn : n ≠ 0) : 0 < n ∧ n ≤ s.length ∧ s = P.enc c ++ s.drop n := by
  rcases h with ⟨h, _⟩ | h
  · exact absurd h hn
  · exact h
theorem ex_size (s : ByteArray) (n : Nat) : (s.extract n s.size).size = s.size - n := by
  rw [P.dl_size (s.extract n s.size), P.dl_extract, List.length_take, List.length_drop, ← P.dl_size]; omega
set_option maxHeartbeats 2000000 in
theorem takeQuoted_any (s : ByteArray) (w : World) (hs : s.size ≤ 140737488355328) : Calls Try.prog 55 #[.string s] w fun e w' => QtA s w e w' := by
  have HC := hide (cut_one 34)
  have HB := hide takeByte_any
  go_enter Try.func55, Try.ntmps55
  go_wp2_with fail
  refine (HC.out _ _).mono ?_
  rintro e w0 (⟨s0, rfl, hs0, rfl⟩ | ⟨s0, rfl, _, hno, rfl⟩)
  · have HS0 := hide hs0
    have hz0 : s0.size + 1 = s.size := by rw [P.dl_size s, hs0, P.dl_size s0]; rfl
    clear hs0
    have hz0' : s0.size ≤ 140737488355328 := by omega
    have HZ0 := hide hz0
    clear hz0
    go_wp2
    go_loopw [0, 6] (fun x v wr => ∃ (s' : ByteArray) (acc : List UInt8), x = .string s' ∧ s'.size ≤ 140737488355328 ∧ s'.size ≤ s0.size ∧ OwnB wr w0.heap.size v (P.bi acc) ∧ acc.length ≤ 41 ∧ P.dl s0 = P.esc acc ++ P.dl s' ∧ Below w0.heap.size w0 wr) (fun x _ _ => P.strSz x)
    case atStart => exact ⟨s0, [], rfl, hz0', Nat.le_refl _, World.ownsRow_nil _ _ _ _, by simp, rfl, Below.refl _ _⟩
    case round =>
      obtain ⟨s', acc, rfl, hz1, hz2, hown, hal, hsp, hB⟩ := hrel
      have HSP := hide hsp
      clear hsp
      have hown' := hown
      obtain ⟨va, vc, hv⟩ : ∃ a c, u6 = .slice a acc.length c := by
        obtain ⟨a, c, h, _⟩ := hown.row
        rw [P.bi_len] at h
        exact ⟨a, c, h⟩
      subst hv
      clear hown'
      by_cases hlt : acc.length ≤ 40
      · have hd : decide ((acc.length : Int) ≤ 40) = true := by simp; omega
        go_wp2_with fail
        refine (HC.out _ _).mono ?_
        rintro e w9 (⟨r, rfl, hr, rfl⟩ | ⟨r, rfl, hrs, hno, rfl⟩)
        · have hcv := conv_rowB hown.row
          rw [P.bi_str] at hcv
          have hrz : r.size + 1 = s'.size := by rw [P.dl_size s', hr, P.dl_size r]; rfl
          have HQ : Hid (P.Qt (P.dl s) (P.dl ⟨acc.toArray⟩) (P.dl r) true) := .inl ⟨rfl, by rw [HS0.out, HSP.out, hr], hlt⟩
          clear hr
          go_wp2
          go_ret3
          exact ⟨_, r, true, rfl, HQ.out, hB, by have := HZ0.out; omega⟩
        · subst hrs
          have HNO := hide hno
          clear hno
          go_wp2_with fail
          refine (HB.out _ _ (by omega)).mono ?_
          rintro e w9 ⟨c, n, rfl, htb, rfl⟩
          by_cases hn : n = 0
          · have HQ : Hid (P.Qt (P.dl s) (P.dl ⟨#[]⟩) (P.dl ⟨#[]⟩) false) := .inr ⟨rfl, fun v' r' hv' e => by
              rw [HS0.out, HSP.out] at e
              obtain ⟨v2, rfl, h2⟩ := P.esc_front (List.cons.inj e).2
              rcases htb with ⟨_, h3⟩ | ⟨h3, _⟩
              · cases v2 with
                | nil => exact HNO.out r' h2
                | cons d v2 => rw [P.esc_cons, List.append_assoc] at h2; exact h3 _ _ h2
              · omega⟩
            subst hn
            clear htb
            go_wp2
            go_ret3
            exact ⟨_, _, false, rfl, HQ.out, hB, Nat.zero_le _⟩
          · obtain ⟨hn0, hn1, hn2⟩ := P.Tb_sz htb hn
            rw [← P.dl_size] at hn1
            have hd2 : ((n : Int) == 0) = false := by rw [beq_eq_false_iff_ne]; omega
            have hn3 : (n : Int) ≤ (r.size : Int) := by omega
            have hbc : c.toNat < 256 := c.toNat_lt
            have HN2 := hide hn2
            clear hn2 htb hn
            go_wp2
            go_region_law (first
              | (refine step_app1d rfl (.tmp 37) (.tmp 39) rfl w0.heap.size w0.heap.size w0 w9 _ (P.bi acc) (c.toNat : Int) hown hB (Nat.le_refl _) rfl rfl (by rw [P.bi_len]; omega) hB.size ?_; intro v1 w1 own1 hb1 _ _)
              | (refine step_app1 rfl (.tmp 37) (.tmp 39) rfl w0.heap.size w0.heap.size w0 w9 _ (P.bi acc) (c.toNat : Int) hown hB (Nat.le_refl _) rfl rfl (by rw [P.bi_len]; omega) hB.size ?_; intro v1 w1 own1 hb1 _ _))
            all_goals
              go_simp
              go_roundw
              case rel =>
                repeat apply Exists.intro
                refine ⟨?_, rfl⟩
                refine ⟨r.extract n r.size, acc ++ [c], rfl, by rw [ex_size]; omega, by rw [ex_size]; omega, by rw [P.bi_app]; exact own1, by simp; omega, ?_, hb1⟩
                rw [HSP.out, P.esc_app, P.esc_one, P.dl_extract, List.take_of_length_le (by simp), List.append_assoc, ← HN2.out]
              case measure => show (r.extract n r.size).size < r.size; rw [ex_size]; omega
      · have hd : decide ((acc.length : Int) ≤ 40) = false := by simp; omega
        have HQ : Hid (P.Qt (P.dl s) (P.dl ⟨#[]⟩) (P.dl ⟨#[]⟩) false) := .inr ⟨rfl, fun v' r' hv' e => by
          rw [HS0.out, HSP.out] at e
          obtain ⟨v2, rfl, h2⟩ := P.esc_front (List.cons.inj e).2
          simp at hv'
          omega⟩
        go_wp2
        go_ret3
        exact ⟨_, _, false, rfl, HQ.out, hB, Nat.zero_le _⟩
  · have HQ : Hid (P.Qt (P.dl s) (P.dl ⟨#[]⟩) (P.dl ⟨#[]⟩) false) := .inr ⟨rfl, fun v' r' hv' e => hno _ e⟩
    clear hno
    go_wp2
    go_ret3
    exact ⟨_, _, false, rfl, HQ.out, Below.refl _ _, Nat.zero_le _⟩
end Go.Proofs.Ythdccpgjiogiaaa
