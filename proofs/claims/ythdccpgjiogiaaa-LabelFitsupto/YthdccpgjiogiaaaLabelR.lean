/- What takeByte and takeSign answer. -/
import Derived.Test.YthdccpgjiogiaaaLabelT
namespace Go.Proofs.Ythdccpgjiogiaaa
open Go.RowKit
set_option linter.unusedVariables false
namespace P
theorem enc_cases {d c0 : UInt8} {r t : List UInt8} (h : c0 :: t = enc d ++ r) : (c0 = 92 ∧ ∃ c1, t = c1 :: r ∧ (c1 = 34 ∨ c1 = 92 ∨ c1 = 110)) ∨ (c0 = d ∧ c0 ≠ 34 ∧ c0 ≠ 92 ∧ c0 ≠ 10) := by
  unfold enc at h
  by_cases h1 : d = 34
  · rw [if_pos h1] at h; simp at h; exact .inl ⟨h.1, 34, h.2, .inl rfl⟩
  by_cases h2 : d = 92
  · rw [if_neg h1, if_pos h2] at h; simp at h; exact .inl ⟨h.1, 92, h.2, .inr (.inl rfl)⟩
  by_cases h3 : d = 10
  · rw [if_neg h1, if_neg h2, if_pos h3] at h; simp at h; exact .inl ⟨h.1, 110, h.2, .inr (.inr rfl)⟩
  rw [if_neg h1, if_neg h2, if_neg h3] at h
  simp at h
  exact .inr ⟨h.1, by rw [h.1]; exact h1, by rw [h.1]; exact h2, by rw [h.1]; exact h3⟩
theorem Tb_nil (c : UInt8) : Tb [] c 0 := .inl ⟨rfl, fun d r h => by
  have := congrArg List.length h
  have := (enc_len d).1
  simp at *; omega⟩
theorem Tb_bad {c0 : UInt8} {t : List UInt8} (c : UInt8) (h : c0 = 34 ∨ c0 = 10) : Tb (c0 :: t) c 0 := .inl ⟨rfl, fun d r e => by
  rcases enc_cases e with ⟨h1, _⟩ | ⟨_, h2, h3, h4⟩
  · rcases h with rfl | rfl <;> simp at h1
  · rcases h with rfl | rfl
    · exact h2 rfl
    · exact h4 rfl⟩
theorem Tb_end (c : UInt8) : Tb [92] c 0 := .inl ⟨rfl, fun d r e => by
  rcases enc_cases e with ⟨_, c1, h, _⟩ | ⟨_, _, h3, _⟩
  · simp at h
  · exact h3 rfl⟩
theorem Tb_not {c1 : UInt8} {t : List UInt8} (c : UInt8) (h1 : c1 ≠ 34) (h2 : c1 ≠ 92) (h3 : c1 ≠ 110) : Tb (92 :: c1 :: t) c 0 := .inl ⟨rfl, fun d r e => by
  rcases enc_cases e with ⟨_, c', h, h'⟩ | ⟨_, _, h', _⟩
  · simp at h
    obtain ⟨rfl, _⟩ := h
    rcases h' with h | h | h
    · exact h1 h
    · exact h2 h
    · exact h3 h
  · exact h' rfl⟩
theorem Tb_34 (t : List UInt8) : Tb (92 :: 34 :: t) 34 2 := .inr ⟨by omega, by simp, rfl⟩
theorem Tb_92 (t : List UInt8) : Tb (92 :: 92 :: t) 92 2 := .inr ⟨by omega, by simp, rfl⟩
theorem Tb_10 (t : List UInt8) : Tb (92 :: 110 :: t) 10 2 := .inr ⟨by omega, by simp, rfl⟩
theorem Tb_one {c : UInt8} (t : List UInt8) (h1 : c ≠ 34) (h2 : c ≠ 92) (h3 : c ≠ 10) : Tb (c :: t) c 1 := .inr ⟨by omega, by simp, by unfold enc; rw [if_neg h1, if_neg h2, if_neg h3]; rfl⟩
theorem dl_cons {s : ByteArray} (h : 0 < s.size) : ∃ t, dl s = s[0] :: t := by
  have e := dl_at s 0 h
  cases hd : dl s with
  | nil => rw [hd] at e; simp at e
  | cons c t => rw [hd] at e; simp at e; exact ⟨t, by rw [e]⟩
theorem dl_cons2 {s : ByteArray} (h : 1 < s.size) : ∃ t, dl s = s[0] :: s[1] :: t := by
  obtain ⟨t, e⟩ := dl_cons (s := s) (by omega)
  have e2 := dl_at s 1 h
  rw [e] at e2
  cases t with
  | nil => simp at e2
  | cons c t => simp at e2; exact ⟨t, by rw [e, e2]⟩
def shJ (c : UInt8) : Int := if c = 34 then 0 else if c = 92 then 1 else if c = 110 then 2 else -1
theorem shJ_eq (c : UInt8) : Lib.indexByte [34, 92, 110] c = shJ c := by
  unfold shJ
  by_cases h1 : c = 34
  · subst h1; decide
  by_cases h2 : c = 92
  · subst h2; decide
  by_cases h3 : c = 110
  · subst h3; decide
  rw [if_neg h1, if_neg h2, if_neg h3]
  simp [Lib.indexByte, Ne.symm h1, Ne.symm h2, Ne.symm h3]
end P
theorem shields_any (c : UInt8) (w : World) : Calls Try.prog 52 #[.string ⟨#[34, 92, 110]⟩, .int .u8 (c.toNat : Int)] w fun e w' => e = .returned (.int .i64 (P.shJ c)) ∧ w' = w := by
  have h := Try.strings_IndexByte ⟨#[34, 92, 110]⟩ (c.toNat : Int) w
  rw [P.u8] at h
  have e : Lib.indexByte (⟨#[34, 92, 110]⟩ : ByteArray).data.toList c = P.shJ c := P.shJ_eq c
  rw [e] at h
  exact h
theorem u8_eq {c : UInt8} {n : Nat} (hn : n < 256) (h : (c.toNat : Int) = n) : c = UInt8.ofNat n := by
  apply UInt8.toNat_inj.1
  rw [UInt8.toNat_ofNat', Nat.mod_eq_of_lt (by omega)]
  omega
theorem ret_ti {a b : UInt8} {c d : Nat} (h : a = b) (h2 : c = d) : Ending.returned (.tuple #[.int .u8 (a.toNat : Int), .int .i64 (c : Int)]) = .returned (.tuple #[.int .u8 (b.toNat : Int), .int .i64 (d : Int)]) := by rw [h, h2]
set_option maxHeartbeats 1000000 in
theorem takeByte_any (s : ByteArray) (w : World) (hs : s.size ≤ 9223372036854775807) : Calls Try.prog 60 #[.string s] w fun e w' => ∃ (c : UInt8) (n : Nat), e = .returned (.tuple #[.int .u8 (c.toNat : Int), .int .i64 (n : Int)]) ∧ P.Tb (P.dl s) c n ∧ w' = w := by
  have HI := hide shielded_any
  have HJ := hide shields_any
  by_cases h0 : s.size = 0
  · have he : s.toList.isEmpty = true := by
      rw [List.isEmpty_iff, Lib.toList_data]
      exact List.length_eq_zero_iff.1 ((P.dl_size s).symm.trans h0)
    have HT : Hid (P.Tb (P.dl s) 0 0) := by
      show P.Tb _ _ _
      rw [List.isEmpty_iff, Lib.toList_data] at he
      have e : P.dl s = [] := he
      rw [e]; exact P.Tb_nil 0
    clear h0
    go_enter Try.func60, Try.ntmps60
    go_wp2
    go_ret2
    exact ⟨0, 0, rfl, HT.out, rfl⟩
  have hp : 0 < s.size := by omega
  have he : s.toList.isEmpty = false := by
    rw [List.isEmpty_eq_false_iff, Lib.toList_data]
    intro e
    have e2 := P.dl_size s
    have e3 : P.dl s = [] := e
    rw [e3, List.length_nil] at e2
    omega
  clear h0
  have hb0 : s[0].toNat < 256 := s[0].toNat_lt
  have HI0 := hide (fun w => HI.out s[0] w)
  by_cases c0 : s[0] = 92
  · have e0 : ((s[0].toNat : Int) == 92) = true := by rw [c0]; decide
    by_cases h1 : 1 < s.size
    · have hd : decide (1 < (s.size : Int)) = true := by simp; omega
      obtain ⟨t, ht⟩ := P.dl_cons2 h1
      rw [c0] at ht
      have hb1 : s[1].toNat < 256 := s[1].toNat_lt
      have HJ1 := hide (fun w => HJ.out s[1] w)
      by_cases d1 : s[1] = 34
      · have HT : Hid (P.Tb (P.dl s) 34 2) := by show P.Tb _ _ _; rw [ht, d1]; exact P.Tb_34 t
        rw [show P.shJ s[1] = 0 by rw [d1]; decide] at HJ1
        clear ht d1 c0
        go_enter Try.func60, Try.ntmps60
        go_wp2_with (go_at_call 52; refine (HJ1.out _).mono ?_; rintro e w' ⟨rfl, rfl⟩)
        go_ret2
        exact ⟨34, 2, rfl, HT.out, rfl⟩
      by_cases d2 : s[1] = 92
      · have HT : Hid (P.Tb (P.dl s) 92 2) := by show P.Tb _ _ _; rw [ht, d2]; exact P.Tb_92 t
        rw [show P.shJ s[1] = 1 by rw [d2]; decide] at HJ1
        clear ht d1 d2 c0
        go_enter Try.func60, Try.ntmps60
        go_wp2_with (go_at_call 52; refine (HJ1.out _).mono ?_; rintro e w' ⟨rfl, rfl⟩)
        go_ret2
        exact ⟨92, 2, rfl, HT.out, rfl⟩
      by_cases d3 : s[1] = 110
      · have HT : Hid (P.Tb (P.dl s) 10 2) := by show P.Tb _ _ _; rw [ht, d3]; exact P.Tb_10 t
        rw [show P.shJ s[1] = 2 by rw [d3]; decide] at HJ1
        clear ht d1 d2 d3 c0
        go_enter Try.func60, Try.ntmps60
        go_wp2_with (go_at_call 52; refine (HJ1.out _).mono ?_; rintro e w' ⟨rfl, rfl⟩)
        go_ret2
        exact ⟨10, 2, rfl, HT.out, rfl⟩
      have HT : Hid (P.Tb (P.dl s) 0 0) := by show P.Tb _ _ _; rw [ht]; exact P.Tb_not 0 d1 d2 d3
      rw [show P.shJ s[1] = -1 by unfold P.shJ; rw [if_neg d1, if_neg d2, if_neg d3]] at HJ1
      clear ht d1 d2 d3 c0
      go_enter Try.func60, Try.ntmps60
      go_wp2_with (go_at_call 52; refine (HJ1.out _).mono ?_; rintro e w' ⟨rfl, rfl⟩)
      go_ret2
      exact ⟨0, 0, rfl, HT.out, rfl⟩
    · have hd : decide (1 < (s.size : Int)) = false := by simp; omega
      have HT : Hid (P.Tb (P.dl s) 0 0) := by
        show P.Tb _ _ _
        obtain ⟨t, ht⟩ := P.dl_cons hp
        have e2 := P.dl_size s
        rw [ht, List.length_cons] at e2
        have ht0 : t = [] := List.length_eq_zero_iff.1 (by omega)
        rw [ht, ht0, c0]; exact P.Tb_end 0
      rw [show P.shI s[0] = 1 by rw [c0]; decide] at HI0
      clear c0
      go_enter Try.func60, Try.ntmps60
      go_wp2_with (go_at_call 52; refine (HI0.out _).mono ?_; rintro e w' ⟨rfl, rfl⟩)
      go_ret2
      exact ⟨0, 0, rfl, HT.out, rfl⟩
  · have e0 : ((s[0].toNat : Int) == 92) = false := by
      rw [beq_eq_false_iff_ne]
      intro e
      exact c0 (u8_eq (n := 92) (by omega) e)
    obtain ⟨t, ht⟩ := P.dl_cons hp
    by_cases d1 : s[0] = 34 ∨ s[0] = 10
    · have HT : Hid (P.Tb (P.dl s) 0 0) := by show P.Tb _ _ _; rw [ht]; exact P.Tb_bad 0 d1
      obtain ⟨i, hi, hi2⟩ : ∃ i : Int, P.shI s[0] = i ∧ 0 ≤ i := by
        rcases d1 with d | d
        · exact ⟨0, by rw [d]; decide, by omega⟩
        · exact ⟨2, by rw [d]; decide, by omega⟩
      rw [hi] at HI0
      clear hi ht d1 c0
      go_enter Try.func60, Try.ntmps60
      go_wp2_with (go_at_call 52; refine (HI0.out _).mono ?_; rintro e w' ⟨rfl, rfl⟩)
      go_ret2
      exact ⟨0, 0, rfl, HT.out, rfl⟩
    · have n1 : s[0] ≠ 34 := fun e => d1 (.inl e)
      have n2 : s[0] ≠ 10 := fun e => d1 (.inr e)
      have HT : Hid (P.Tb (P.dl s) s[0] 1) := by show P.Tb _ _ _; rw [ht]; exact P.Tb_one t n1 c0 n2
      rw [show P.shI s[0] = -1 by unfold P.shI; rw [if_neg n1, if_neg c0, if_neg n2]] at HI0
      clear ht d1 n1 n2 c0
      go_enter Try.func60, Try.ntmps60
      go_wp2_with (go_at_call 52; refine (HI0.out _).mono ?_; rintro e w' ⟨rfl, rfl⟩)
      go_ret2
      exact ⟨s[0], 1, rfl, HT.out, rfl⟩
/-- What takeSign answers. -/
def P.Sg (s : List UInt8) (k : Int) (r : List UInt8) (ok : Bool) : Prop :=
  (ok = true ∧ P.Kd k ∧ s = P.sgK k ++ r ∧ ∀ j, k < j → j ≤ 4 → Lib.hasPrefix s (P.sgK j) = false) ∨ (ok = false ∧ ∀ j, P.Kd j → Lib.hasPrefix s (P.sgK j) = false)
theorem P.trim_eq {s p : List UInt8} (h : Lib.hasPrefix s p = true) : s = p ++ Lib.trimPrefix s p := by
  unfold Lib.trimPrefix
  rw [if_pos h]
  unfold Lib.hasPrefix at h
  rw [List.isPrefixOf_iff_prefix] at h
  obtain ⟨t, rfl⟩ := h
  simp
set_option maxHeartbeats 1000000 in
theorem takeSign_any (s : ByteArray) (w : World) : Calls Try.prog 54 #[.string s] w fun e w' => ∃ (k : Int) (r : ByteArray) (ok : Bool), e = .returned (.tuple #[.int .i64 k, .string r, .bool ok]) ∧ P.Sg (P.dl s) k (P.dl r) ok ∧ w' = w := by
  have HZ := hide sign_any
  have HC := hide Try.strings_CutPrefix
  go_enter Try.func54, Try.ntmps54
  go_wp2
  go_loop [5] (fun i => ∃ k : Nat, k ≤ 4 ∧ i = .int .i64 k ∧ ∀ j : Int, (k : Int) < j → j ≤ 4 → Lib.hasPrefix (P.dl s) (P.sgK j) = false) (fun i => (intOf i).toNat)
  case atStart => exact ⟨4, by omega, rfl, fun j h1 h2 => by omega⟩
  case round =>
    obtain ⟨k, hk, rfl, hn⟩ := hrel
    have HN := hide hn
    clear hn
    by_cases hlt : 1 ≤ k
    · have hd : decide (1 ≤ (k : Int)) = true := by simp; omega
      have HZk := hide (fun w => HZ.out (k : Int) w)
      have HCk := hide (fun w => HC.out s (P.sgB k) w)
      cases hp : Lib.hasPrefix (P.dl s) (P.sgK k) with
      | true =>
        have HS : Hid (P.Sg (P.dl s) k (P.dl ⟨(Lib.trimPrefix (P.dl s) (P.sgK k)).toArray⟩) true) := .inl ⟨rfl, ⟨by omega, by omega⟩, P.trim_eq hp, HN.out⟩
        have HCk2 : Hid (∀ w, Calls Try.prog 44 #[.string s, .string (P.sgB k)] w fun e w' => e = .returned (.tuple #[.string ⟨(Lib.trimPrefix (P.dl s) (P.sgK k)).toArray⟩, .bool true]) ∧ w' = w) := fun w => by
          have := HCk.out w
          rw [show (P.sgB (k : Int)).data.toList = P.sgK k from rfl, hp] at this
          exact this
        clear hp HCk
        generalize P.sgB (k : Int) = sg at HZk HCk2
        generalize (⟨(Lib.trimPrefix (P.dl s) (P.sgK k)).toArray⟩ : ByteArray) = rst at HS HCk2
        go_wp2_with (first | (go_at_call 42; refine (HZk.out _).mono ?_; rintro e w' ⟨rfl, rfl⟩) | (go_at_call 44; refine (HCk2.out _).mono ?_; rintro e w' ⟨rfl, rfl⟩))
        refine bodyPost_ret (v := .tuple #[.int .i64 k, .string rst, .bool true]) (by simp [results, Try.results54, go_sem]) rfl ?_
        exact ⟨k, rst, true, rfl, HS.out, rfl⟩
      | false =>
        have HP := hide hp
        have HCk2 : Hid (∀ w, Calls Try.prog 44 #[.string s, .string (P.sgB k)] w fun e w' => e = .returned (.tuple #[.string ⟨(Lib.trimPrefix (P.dl s) (P.sgK k)).toArray⟩, .bool false]) ∧ w' = w) := fun w => by
          have := HCk.out w
          rw [show (P.sgB (k : Int)).data.toList = P.sgK k from rfl, hp] at this
          exact this
        clear hp HCk
        generalize P.sgB (k : Int) = sg at HZk HCk2
        generalize (⟨(Lib.trimPrefix (P.dl s) (P.sgK k)).toArray⟩ : ByteArray) = rst at HCk2
        go_wp2_with (first | (go_at_call 42; refine (HZk.out _).mono ?_; rintro e w' ⟨rfl, rfl⟩) | (go_at_call 44; refine (HCk2.out _).mono ?_; rintro e w' ⟨rfl, rfl⟩))
        go_round
        case rel =>
          refine ⟨k - 1, by omega, by go_num, fun j h1 h2 => ?_⟩
          by_cases hj : j = k
          · rw [hj]; exact HP.out
          · exact HN.out j (by omega) h2
        case measure => simp [intOf]; omega
    · have hd : decide (1 ≤ (k : Int)) = false := by simp; omega
      have HS : Hid (P.Sg (P.dl s) 0 (P.dl ⟨#[]⟩) false) := .inr ⟨rfl, fun j hj => HN.out j (by have := hj.1; omega) hj.2⟩
      go_wp2
      refine bodyPost_ret (v := .tuple #[.int .i64 0, .string ⟨#[]⟩, .bool false]) (by simp [results, Try.results54, go_sem]) rfl ?_
      exact ⟨0, ⟨#[]⟩, .inl ⟨rfl, HS.out, rfl⟩⟩
end Go.Proofs.Ythdccpgjiogiaaa
