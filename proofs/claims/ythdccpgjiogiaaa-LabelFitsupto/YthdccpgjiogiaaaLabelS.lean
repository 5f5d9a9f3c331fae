/- What takeMatch answers. -/
import Derived.Test.YthdccpgjiogiaaaLabelQ
namespace Go.Proofs.Ythdccpgjiogiaaa
open Go.RowKit
set_option linter.unusedVariables false
namespace P
theorem nb_take (s : List UInt8) : s.take (nb s) = s.takeWhile nmB := by
  unfold nb
  induction s with
  | nil => rfl
  | cons c s ih =>
    rw [List.takeWhile_cons]
    split
    · simp [ih]
    · rfl
theorem nb_all2 (s : List UInt8) : (s.take (nb s)).all nmB = true := by
  rw [nb_take]
  induction s with
  | nil => rfl
  | cons c s ih =>
    rw [List.takeWhile_cons]
    split
    · rename_i h; simp only [List.all_cons, Bool.and_eq_true]; exact ⟨h, ih⟩
    · rfl
/-- A sign, and a quote behind it, has no other reading. -/
theorem sg_only {k k' : Int} (hk : Kd k) (hk' : Kd k') (hle : k ≤ k') {r r' : List UInt8} (h : sgK k ++ 34 :: r = sgK k' ++ r') : k' = k ∧ r' = 34 :: r := by
  obtain ⟨a, b⟩ := hk
  obtain ⟨a', b'⟩ := hk'
  have e : k = 1 ∨ k = 2 ∨ k = 3 ∨ k = 4 := by omega
  have e' : k' = 1 ∨ k' = 2 ∨ k' = 3 ∨ k' = 4 := by omega
  rcases e with rfl | rfl | rfl | rfl <;> rcases e' with rfl | rfl | rfl | rfl <;> first | (exfalso; omega) | (simp [sgK] at h; try exact ⟨rfl, h.symm⟩)
theorem pre_self (p r : List UInt8) : Lib.hasPrefix (p ++ r) p = true := by unfold Lib.hasPrefix; rw [List.isPrefixOf_iff_prefix]; exact List.prefix_append p r
/-- What takeMatch answers. -/
def Tm (s : List UInt8) (x : Mt) (r : List UInt8) (ok : Bool) : Prop := (ok = true ∧ Wf x ∧ s = mtx x ++ r) ∨ (ok = false ∧ ∀ y r', Wf y → s ≠ mtx y ++ r')
theorem Tm_sign {s r : List UInt8} {k : Int} (x : Mt) (r0 : List UInt8) (h : Sg (s.drop (nb s)) k r false) : Tm s x r0 false := by
  rcases h with ⟨h, _⟩ | ⟨_, h⟩
  · cases h
  · refine .inr ⟨rfl, fun y r' hy e => ?_⟩
    obtain ⟨a1, a2⟩ := mtx_name hy r'
    have h1 := h y.1 hy.2.1
    unfold nb at h1
    rw [e, a1, a2, pre_self] at h1
    cases h1
theorem Tm_quote {s r v r2 : List UInt8} {k : Int} (x : Mt) (r0 : List UInt8) (h : Sg (s.drop (nb s)) k r true) (h2 : Qt r v r2 false) : Tm s x r0 false := by
  rcases h with ⟨_, hk, hs, hn⟩ | ⟨h, _⟩
  · rcases h2 with ⟨h2, _⟩ | ⟨_, h2⟩
    · cases h2
    · refine .inr ⟨rfl, fun y r' hy e => ?_⟩
      obtain ⟨a1, a2⟩ := mtx_name hy r'
      unfold nb at hs hn
      rw [e, a1, a2] at hs hn
      have hle : y.1 ≤ k := by
        rcases Int.lt_or_le k y.1 with h | h
        · have := hn y.1 h hy.2.1.2
          rw [pre_self] at this; cases this
        · exact h
      obtain ⟨_, e2⟩ := sg_only hy.2.1 hk hle hs
      exact h2 (dl y.2.2) r' (by rw [← dl_size]; exact hy.2.2) e2
  · cases h
theorem Tm_ok {s r r2 : List UInt8} {n v : ByteArray} {k : Int} (hn : dl n = s.take (nb s)) (h : Sg (s.drop (nb s)) k r true) (h2 : Qt r (dl v) r2 true) : Tm s (k, n, v) r2 true := by
  rcases h with ⟨_, hk, hs, _⟩ | ⟨h, _⟩
  · rcases h2 with ⟨_, h2, hv⟩ | ⟨h2, _⟩
    · refine .inl ⟨rfl, ⟨by show (dl n).all nmB = true; rw [hn]; exact nb_all2 s, hk, by show v.size ≤ 40; rw [dl_size]; exact hv⟩, ?_⟩
      conv => lhs; rw [← List.take_append_drop (nb s) s, hs, h2, ← hn]
      unfold mtx
      simp
    · cases h2
  · cases h
end P
def TmA (s : ByteArray) (w : World) (e : Ending) (w' : World) : Prop := ∃ (x : P.Mt) (r : ByteArray) (ok : Bool), e = .returned (.tuple #[.agg #[.int .i64 x.1, .string x.2.1, .string x.2.2], .string r, .bool ok]) ∧ P.Tm (P.dl s) x (P.dl r) ok ∧ Below w.heap.size w w' ∧ r.size ≤ s.size
theorem tmA {s : ByteArray} {w w' : World} {e : Ending} (x : P.Mt) (r : ByteArray) (ok : Bool) (h1 : e = .returned (.tuple #[.agg #[.int .i64 x.1, .string x.2.1, .string x.2.2], .string r, .bool ok])) (h2 : P.Tm (P.dl s) x (P.dl r) ok) (h3 : Below w.heap.size w w') (h4 : r.size ≤ s.size) : TmA s w e w' := ⟨x, r, ok, h1, h2, h3, h4⟩
theorem BoxM.unfrozen {w : World} {g : Nat} {x : P.Mt} (h : BoxM w g x) (j : Nat) : w.frozen? ⟨g, j, none⟩ = false := by
  unfold BoxM at h
  simp [World.frozen?, h]
theorem BoxM.set3 {w : World} {g : Nat} {x : P.Mt} (h : BoxM w g x) (k : Int) (n v : ByteArray) : BoxM (((w.setCell ⟨g, 0, none⟩ (.int .i64 k)).setCell ⟨g, 1, none⟩ (.string n)).setCell ⟨g, 2, none⟩ (.string v)) g (k, n, v) := by
  unfold BoxM at h ⊢
  have h1 := heap_setCell_same w g 0 _ _ (.int .i64 k) h
  have h2 := heap_setCell_same _ g 1 _ _ (.string n) h1
  rw [heap_setCell_same _ g 2 _ _ (.string v) h2]
  simp
theorem clone_any (s : ByteArray) (w : World) (hlim : s.size ≤ 281474976710656) : Calls Try.prog 56 #[.string s] w fun e w' => e = .returned (.string s) ∧ Below w.heap.size w w' := by
  have HC := hide (Try.stringslite_Clone s w hlim)
  go_enter Try.func56, Try.ntmps56
  go_wp2_with (go_at_call 61; refine HC.out.mono ?_; rintro e w' ⟨rfl, hb⟩)
  go_ret
  exact ⟨rfl, hb⟩
set_option maxHeartbeats 2000000 in
theorem takeMatch_any (s : ByteArray) (w : World) (hs : s.size ≤ 140737488355328) : Calls Try.prog 45 #[.string s] w fun e w' => TmA s w e w' := by
  have HN := hide (fun w => nameBytes_any s w (by omega))
  have hnl := P.nb_le (P.dl s)
  rw [← P.dl_size] at hnl
  have HT1 := hide (fun k r x r0 (h : P.Sg ((P.dl s).drop (P.nb (P.dl s))) k r false) => P.Tm_sign x r0 h)
  have HT2 := hide (fun k r v r2 x r0 (h : P.Sg ((P.dl s).drop (P.nb (P.dl s))) k r true) (h2 : P.Qt r v r2 false) => P.Tm_quote x r0 h h2)
  have HT3 := hide (fun k r v r2 n (hn : P.dl n = (P.dl s).take (P.nb (P.dl s))) (h : P.Sg ((P.dl s).drop (P.nb (P.dl s))) k r true) (h2 : P.Qt r (P.dl v) r2 true) => P.Tm_ok hn h h2)
  generalize P.nb (P.dl s) = n at HN hnl HT1 HT2 HT3
  have HS := hide (takeSign_any (s.extract n s.size))
  have HE : Hid (P.dl (s.extract n s.size) = (P.dl s).drop n) := by
    show _ = _
    rw [P.dl_extract, List.take_of_length_le (by simp)]
  have HZ := hide (ex_size s n)
  have HQ := hide takeQuoted_any
  have hn2 : (n : Int) ≤ (s.size : Int) := by omega
  have hn3 : (0 : Int) ≤ (n : Int) := by omega
  have HA := hide (BoxM.new w (0, ⟨#[]⟩, ⟨#[]⟩))
  simp only at HA
  have hB0 : Below w.heap.size w (w.alloc (.cells #[.int .i64 0, .string ⟨#[]⟩, .string ⟨#[]⟩] 49)) := (Below.refl _ w).alloc (Nat.le_refl _) _
  go_enter Try.func45, Try.ntmps45
  go_wp2_with (go_at_call 47; refine (HN.out _).mono ?_; rintro e w' ⟨rfl, rfl⟩)
  refine (HS.out _).mono ?_
  rintro e w9 ⟨k, r, ok, rfl, hsg, rfl⟩
  rw [HE.out] at hsg
  have HG := hide hsg
  cases ok with
  | false =>
    have HR := hide (HT1.out k _ (0, ⟨#[]⟩, ⟨#[]⟩) (P.dl ⟨#[]⟩) hsg)
    clear hsg HG
    go_wp2
    refine bodyPost_ret (v := .tuple #[.agg #[.int .i64 0, .string ⟨#[]⟩, .string ⟨#[]⟩], .string ⟨#[]⟩, .bool false]) (by simp [results, Try.results45, go_sem]) rfl ?_
    exact tmA (0, ⟨#[]⟩, ⟨#[]⟩) ⟨#[]⟩ false rfl HR.out hB0 (Nat.zero_le _)
  | true =>
    have hrz : r.size ≤ s.size := by
      rcases hsg with ⟨_, _, h, _⟩ | ⟨h, _⟩
      · have h2 := congrArg List.length h
        rw [List.length_drop, List.length_append, ← P.dl_size, ← P.dl_size] at h2
        omega
      · cases h
    clear hsg
    go_wp2_with fail
    refine (HQ.out r _ (by omega)).mono ?_
    rintro e w2 ⟨v, r2, ok2, rfl, hq, hb2, hz2⟩
    have hb3 := Below.next hB0 hb2
    have bx := HA.out.next hb2
    have k0 := bx.c0
    have k1 := bx.c1
    have k2 := bx.c2
    simp only at k0 k1 k2
    cases ok2 with
    | false =>
      have HR := hide (HT2.out k _ _ _ (0, ⟨#[]⟩, ⟨#[]⟩) (P.dl ⟨#[]⟩) HG.out hq)
      have f0 := bx.unfrozen 0
      have f1 := bx.unfrozen 1
      have f2 := bx.unfrozen 2
      clear hq HG
      have bx' := bx.set3 0 ⟨#[]⟩ ⟨#[]⟩
      have hb' : Below w.heap.size w (((w2.setCell ⟨w.heap.size, 0, none⟩ (.int .i64 0)).setCell ⟨w.heap.size, 1, none⟩ (.string ⟨#[]⟩)).setCell ⟨w.heap.size, 2, none⟩ (.string ⟨#[]⟩)) := ((hb3.setCell (Nat.le_refl _) _).setCell (Nat.le_refl _) _).setCell (Nat.le_refl _) _
      go_wp2
      generalize ((w2.setCell ⟨w.heap.size, 0, none⟩ (.int .i64 0)).setCell ⟨w.heap.size, 1, none⟩ (.string ⟨#[]⟩)).setCell ⟨w.heap.size, 2, none⟩ (.string ⟨#[]⟩) = W at bx' hb' ⊢
      have e0 := bx'.c0
      have e1 := bx'.c1
      have e2 := bx'.c2
      simp only at e0 e1 e2
      refine bodyPost_ret (v := .tuple #[.agg #[.int .i64 0, .string ⟨#[]⟩, .string ⟨#[]⟩], .string ⟨#[]⟩, .bool false]) (by simp [results, Try.results45, go_sem, e0, e1, e2]) rfl ?_
      exact tmA (0, ⟨#[]⟩, ⟨#[]⟩) ⟨#[]⟩ false rfl HR.out hb' (Nat.zero_le _)
    | true =>
      have hnm : P.dl (s.extract 0 n) = (P.dl s).take n := by rw [P.dl_extract, List.drop_zero, Nat.sub_zero]
      have HR := hide (HT3.out k _ v _ (s.extract 0 n) hnm HG.out hq)
      have hns : (s.extract 0 n).size ≤ 281474976710656 := by rw [P.dl_size (s.extract 0 n), hnm, List.length_take]; omega
      have HCl := hide (fun w => clone_any (s.extract 0 n) w hns)
      clear hq HG hnm hns
      go_wp2_with (go_at_call 56; refine (HCl.out _).mono ?_; rintro e w3 ⟨rfl, hc3⟩; have bx3 := bx.next hc3; have g0 := bx3.c0; have g1 := bx3.c1; have g2 := bx3.c2; have f0 := bx3.unfrozen 0; have f1 := bx3.unfrozen 1; have f2 := bx3.unfrozen 2; simp only at g0 g1 g2)
      have hb4 := Below.next hb3 hc3
      have bx' := bx3.set3 k (s.extract 0 n) v
      have hb' : Below w.heap.size w (((w3.setCell ⟨w.heap.size, 0, none⟩ (.int .i64 k)).setCell ⟨w.heap.size, 1, none⟩ (.string (s.extract 0 n))).setCell ⟨w.heap.size, 2, none⟩ (.string v)) := ((hb4.setCell (Nat.le_refl _) _).setCell (Nat.le_refl _) _).setCell (Nat.le_refl _) _
      generalize ((w3.setCell ⟨w.heap.size, 0, none⟩ (.int .i64 k)).setCell ⟨w.heap.size, 1, none⟩ (.string (s.extract 0 n))).setCell ⟨w.heap.size, 2, none⟩ (.string v) = W at bx' hb' ⊢
      have e0 := bx'.c0
      have e1 := bx'.c1
      have e2 := bx'.c2
      simp only at e0 e1 e2
      refine bodyPost_ret (v := .tuple #[.agg #[.int .i64 k, .string (s.extract 0 n), .string v], .string r2, .bool true]) (by simp [results, Try.results45, go_sem, e0, e1, e2]) rfl ?_
      exact tmA (k, s.extract 0 n, v) r2 true rfl HR.out hb' (by omega)
end Go.Proofs.Ythdccpgjiogiaaa
