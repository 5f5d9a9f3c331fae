/- What the document's own MatchesAt answers. -/
import Derived.Test.YthdccpgjiogiaaaRefAt
import Derived.Test.YthdccpgjiogiaaaRefTx
import Derived.LoopN
import Derived.Deep.CutBlock
namespace Go.Proofs.Ythdccpgjiogiaaa
open Go.RowKit
set_option linter.unusedVariables false
set_option linter.unusedSimpArgs false
theorem drop_cons {s : ByteArray} {k : Nat} (h : k < s.size) : (P.dl s).drop k = s[k] :: (P.dl s).drop (k + 1) := by
  have hk : k < (P.dl s).length := by rw [← P.dl_size]; exact h
  rw [List.drop_eq_getElem_cons hk]
  rfl
theorem drop_end {s : ByteArray} {k : Nat} (h : s.size ≤ k) : (P.dl s).drop k = [] := List.drop_eq_nil_of_le (by rw [← P.dl_size]; exact h)
theorem u8n {c d : UInt8} (h : c ≠ d) : ((c.toNat : Int) == (d.toNat : Int)) = false := by
  rw [beq_eq_false_iff_ne]
  intro e
  exact h (UInt8.toNat_inj.1 (by omega))
theorem u8b {c d : UInt8} (h : c ≠ d) : ((c.toNat : Int) != (d.toNat : Int)) = true := by
  have := u8n h
  simp only [bne, this]; rfl
/-- Of old blocks only g may have turned. -/
structure But (g : Nat) (w w' : World) : Prop where
  os : w'.os = w.os
  tape : w'.tape = w.tape
  output : w'.output = w.output
  size : w.heap.size ≤ w'.heap.size
  block : ∀ k, k < w.heap.size → k ≠ g → w'.heap[k]? = w.heap[k]?
theorem But.refl (g : Nat) (w : World) : But g w w := ⟨rfl, rfl, rfl, Nat.le_refl _, fun _ _ _ => rfl⟩
theorem But.drew {g : Nat} {a w : World} (h : But g a w) : But g a w.drew := ⟨h.os, h.tape, h.output, h.size, h.block⟩
theorem But.drewN {g : Nat} {a w : World} (h : But g a w) (n : Nat) : But g a (w.drewN n) := ⟨h.os, h.tape, h.output, h.size, h.block⟩
theorem But.setCell {g : Nat} {a w : World} (h : But g a w) (j : Nat) (u : Value) : But g a (w.setCell ⟨g, j, none⟩ u) :=
  ⟨h.os, h.tape, h.output, by simpa using h.size, fun k hk hne => (heap_setCell_other w ⟨g, j, none⟩ k u hne).trans (h.block k hk hne)⟩
theorem But.alloc {g : Nat} {a w : World} (h : But g a w) (o : Obj) : But g a (w.alloc o) :=
  ⟨h.os, h.tape, h.output, by have := h.size; simp; omega, fun k hk hne => (((Below.refl _ w).alloc (Nat.le_refl _) o).block k (Nat.lt_of_lt_of_le hk h.size)).trans (h.block k hk hne)⟩
theorem But.below {g B : Nat} {w w' : World} (h : But g w w') (hB : B ≤ g) (hw : B ≤ w.heap.size) : Below B w w' := ⟨h.os, h.tape, h.output, h.size, fun k hk => h.block k (by omega) (by omega)⟩
theorem OwnX.but {α : Type} {e : α → List Value} {k : Nat} {t : TypeId} {w wx : World} {base : Nat} {v : Value} {l : List α} {o : Obj} (h : OwnX e k t w base v l) (ho : But w.heap.size (w.alloc o) wx) : OwnX e k t wx base v l := by
  obtain ⟨h1, h2⟩ := h
  refine ⟨h1, ?_⟩
  rcases h2 with h2 | ⟨g, cap, cur, rfl, hg, hh, r⟩
  · exact .inl h2
  · refine .inr ⟨g, cap, cur, rfl, hg, ?_, r⟩
    have hlt : g < w.heap.size := (Array.getElem?_eq_some_iff.1 hh).1
    exact ((ho.block g (by simp; omega) (by omega)).trans (((Below.refl _ w).alloc (Nat.le_refl _) o).block g hlt)).trans hh
theorem BoxM.set1 {w : World} {g : Nat} {x : P.Mt} (h : BoxM w g x) (n : ByteArray) : BoxM (w.setCell ⟨g, 1, none⟩ (.string n)) g (x.1, n, x.2.2) := by
  unfold BoxM at h ⊢
  rw [heap_setCell_same w g 1 _ _ _ h]
  simp
theorem BoxM.set2 {w : World} {g : Nat} {x : P.Mt} (h : BoxM w g x) (n : ByteArray) : BoxM (w.setCell ⟨g, 2, none⟩ (.string n)) g (x.1, x.2.1, n) := by
  unfold BoxM at h ⊢
  rw [heap_setCell_same w g 2 _ _ _ h]
  simp
theorem BoxM.set0 {w : World} {g : Nat} {x : P.Mt} (h : BoxM w g x) (k : Int) : BoxM (w.setCell ⟨g, 0, none⟩ (.int .i64 k)) g (k, x.2.1, x.2.2) := by
  unfold BoxM at h ⊢
  rw [heap_setCell_same w g 0 _ _ _ h]
  simp
theorem BoxM.drew {w : World} {g : Nat} {x : P.Mt} (h : BoxM w g x) : BoxM w.drew g x := h
theorem BoxM.drewN {w : World} {g : Nat} {x : P.Mt} (h : BoxM w g x) (n : Nat) : BoxM (w.drewN n) g x := h
/-- How far the name's loop has come. -/
def NmR (s : ByteArray) (k1 g : Nat) (W : World) (j : Nat) (n : ByteArray) (wx : World) : Prop :=
  k1 ≤ j ∧ j ≤ s.size ∧ BoxM wx g (0, n, ⟨#[]⟩) ∧ But g W wx ∧ (P.dl s).drop k1 = P.dl n ++ (P.dl s).drop j ∧ (P.dl n).all (fun c => !P.sgB1 c) = true ∧ n.size ≤ j
set_option maxRecDepth 100000 in
set_option maxHeartbeats 8000000 in
theorem matchesAt_any (s : ByteArray) (w : World) (hs : s.size ≤ 1048576) : Calls Try.prog 21 #[.string s] w fun e w' => MaA s w e w' := by
  by_cases h0 : s.size = 0
  · have he : s.toList.isEmpty = true := by
      rw [List.isEmpty_iff, Lib.toList_data]
      exact List.length_eq_zero_iff.1 ((P.dl_size s).symm.trans h0)
    have HR : Hid (P.Ma (P.dl s) [] (P.dl ⟨#[]⟩) false) := P.Ma_no (fun m' r' _ e => by
      have h2 := congrArg List.length e
      rw [← P.dl_size, h0] at h2
      simp [P.txt] at h2)
    clear h0
    go_enter Try.func21, Try.ntmps21
    go_wp2
    go_ret3
    exact maA _ [] _ false rfl (OwnX.nil _ _ _ _ _) HR.out mtOk_nil (Below.refl _ _)
  have hp : 0 < s.size := by omega
  have he : s.toList.isEmpty = false := by
    rw [List.isEmpty_eq_false_iff, Lib.toList_data]
    intro e
    have e2 := P.dl_size s
    have e3 : P.dl s = [] := e
    rw [e3, List.length_nil] at e2
    omega
  clear h0
  have hb0 : s[0].toNat < 256 := s[0].toNat_lt
  by_cases c0 : s[0] = 123
  · have e0 : ((s[0].toNat : Int) != 123) = false := by rw [c0]; decide
    clear c0
    go_enter Try.func21, Try.ntmps21
    go_wp2
    go_loopw [5, 6] (fun v i wr => ∃ (k : Nat) (out : List P.Mt), 1 ≤ k ∧ k ≤ s.size ∧ i = .int .i64 k ∧ OwnM wr w.heap.size v out ∧ out.length ≤ k ∧ P.At (P.dl s) k out ∧ MaOk s.size out ∧ Below w.heap.size w wr) (fun _ i _ => s.size - (intOf i).toNat)
    case atStart => exact ⟨1, [], by omega, by omega, rfl, OwnX.nil _ _ _ _ _, by simp, P.At.start _, (fun x hx => by cases hx), Below.refl _ _⟩
    case round =>
      obtain ⟨k, out, hk1, hk2, rfl, hown, hol, hat, hmo, hB⟩ := hrel
      have HAT := hide hat
      have HMO := hide hmo
      clear hat hmo
      obtain ⟨va, vc, hv⟩ := OwnM.shp hown
      subst hv
      obtain ⟨L, hL⟩ : ∃ L, out.length = L := ⟨_, rfl⟩
      rw [hL] at hown hol ⊢
      have HLL := hide hL
      clear hL
      have HOWN := hide hown
      clear hown
      by_cases hlt : k < s.size
      · have hd : decide ((k : Int) < (s.size : Int)) = true := by simp; omega
        have hb : s[k].toNat < 256 := s[k].toNat_lt
        by_cases c1 : s[k] = 125
        · have e1 : ((s[k].toNat : Int) != 125) = false := by rw [c1]; decide
          have HD : Hid ((P.dl s).drop k = 125 :: (P.dl s).drop (k + 1)) := by show _ = _; rw [drop_cons hlt, c1]
          have e5 : ((k : Int) == (s.size : Int)) = false := by rw [beq_eq_false_iff_ne]; omega
          have hmt := HMO.out.mt hs
          obtain ⟨K1, hK1⟩ : ∃ K1, K1 = k + 1 := ⟨_, rfl⟩
          have hkw : IntKind.i64.wrap ((k : Int) + 1) = (K1 : Int) := by rw [IntKind.wrap_i64]; omega
          have hkl : (K1 : Int) ≤ (s.size : Int) := by omega
          have hk00 : (0 : Int) ≤ (K1 : Int) := by omega
          have HMF := hide (fun w' (hb : Below wr.heap.size wr w') => matchFault_any _ out w' ((OwnM.row HOWN.out).below hb (Nat.le_refl _)) hmt)
          have HOB := hide (fun w' (hb : Below wr.heap.size wr w') => HOWN.out.below hb (Nat.le_refl _))
          clear c1
          by_cases hz : P.chkM out = 0
          · rw [hz] at HMF
            have HMT := hide (fun w' (hb : Below wr.heap.size wr w') => matchesText_any _ out w' ((OwnM.row HOWN.out).below hb (Nat.le_refl _)) (P.chkM_shrt hz) (fun x hx => (HMO.out x hx).1))
            have hexd : P.dl (s.extract 0 K1) = (P.dl s).take (k + 1) := by rw [P.dl_extract, List.drop_zero, Nat.sub_zero, hK1]
            have hexr : P.dl (s.extract K1 s.size) = (P.dl s).drop (k + 1) := by rw [P.dl_extract, List.take_of_length_le (by simp), hK1]
            clear hK1
            have hHE : P.dl (P.txB out) = P.txt out := rfl
            cases heq : ((P.txB out).toList == (s.extract 0 K1).toList) with
            | true =>
              have HR : Hid (P.Ma (P.dl s) out (P.dl (s.extract K1 s.size)) true) := by
                show P.Ma _ _ _ _
                rw [hexr]
                refine P.At.ok HAT.out HD.out hz ?_
                rw [beq_iff_eq, Lib.toList_data, Lib.toList_data] at heq
                exact (show P.dl (P.txB out) = P.dl (s.extract 0 K1) from heq).trans hexd
              clear hz hexd hexr HD HAT hHE
              generalize P.txB out = T at HMT heq
              go_wp2
              go_region_held3 (fun _ => True) (trivial) (first
                | (go_at_call 19; refine (HMF.out _ (by first | exact Below.refl _ _ | exact (Below.refl _ _).drew)).mono ?_; rintro e w1 ⟨rfl, hc1⟩; have hbF : Below wr.heap.size wr w1 := by first | exact hc1 | exact Below.next (Below.refl _ _).drew hc1)
                | (go_at_call 20; refine (HMT.out _ hbF).mono ?_; rintro e w2 ⟨rfl, hc2⟩; have hbT := Below.next hbF hc2))
              go_wp2
              go_quiet (fail)
              go_wp2
              go_ret3
              exact maA _ out _ true rfl (HOB.out _ (below_dn hbT _)) HR.out hmt (below_dn (Below.next hB hbT) _)
            | false =>
              have HR := hide (P.Ma_no (P.At.other HAT.out HD.out (fun e => by
                rw [beq_eq_false_iff_ne, Lib.toList_data, Lib.toList_data] at heq
                exact heq ((show P.dl (P.txB out) = P.txt out from rfl).trans (e.trans hexd.symm)))))
              clear hz hexd hexr HD HAT hHE
              generalize P.txB out = T at HMT heq
              go_wp2
              go_region_held3 (fun _ => True) (trivial) (first
                | (go_at_call 19; refine (HMF.out _ (by first | exact Below.refl _ _ | exact (Below.refl _ _).drew)).mono ?_; rintro e w1 ⟨rfl, hc1⟩; have hbF : Below wr.heap.size wr w1 := by first | exact hc1 | exact Below.next (Below.refl _ _).drew hc1)
                | (go_at_call 20; refine (HMT.out _ hbF).mono ?_; rintro e w2 ⟨rfl, hc2⟩; have hbT := Below.next hbF hc2))
              go_wp2
              go_ret3
              exact maA _ [] ⟨#[]⟩ false rfl (OwnX.nil _ _ _ _ _) HR.out mtOk_nil (Below.next hB hbT)
          · have HR := hide (P.Ma_no (P.At.bad HAT.out HD.out hz))
            have hz2 : (P.chkM out == 0) = false := by simp [hz]
            have hz3 : (P.chkM out != 0) = true := by simp [hz]
            generalize P.chkM out = co at HMF hz2 hz3
            clear hz HD HAT hK1
            go_wp2
            refine wp_region_held_drew (S := fun _ => True) (by kernel_rfl) trivial (fun hHeld => ?_)
            refine wpAnyH_take (i := 0) (v := ?tv1) rfl (by kernel_rfl) (by kernel_rfl) (by kernel_rfl) (fun _ _ _ h => h) (Or.inl ⟨by rfl, ?ty1⟩) (by assumption) ?tr1
            case ty1 =>
              intro wx hSw
              go_simp
              all_goals with_reducible rfl
            try simp only [Act.put, List.getElem_toArray, List.getElem_cons_succ, List.getElem_cons_zero, List.setIfInBounds_toArray, List.set_cons_zero, List.set_cons_succ]
            refine wpAnyH_take (i := 1) (v := ?tv2) rfl (by kernel_rfl) (by kernel_rfl) (by kernel_rfl) (fun _ _ _ h => h) (Or.inl ⟨by rfl, ?ty2⟩) (by assumption) ?tr2
            case ty2 =>
              intro wx hSw
              go_simp
              all_goals with_reducible rfl
            try simp only [Act.put, List.getElem_toArray, List.getElem_cons_succ, List.getElem_cons_zero, List.setIfInBounds_toArray, List.set_cons_zero, List.set_cons_succ]
            refine wpAnyH_take (i := 2) (v := ?tv3) rfl (by kernel_rfl) (by kernel_rfl) (by kernel_rfl) (fun _ _ _ h => h) (Or.inl ⟨by rfl, ?ty3⟩) (by assumption) ?tr3
            case ty3 =>
              intro wx hSw
              go_simp
              all_goals with_reducible rfl
            try simp only [Act.put, List.getElem_toArray, List.getElem_cons_succ, List.getElem_cons_zero, List.setIfInBounds_toArray, List.set_cons_zero, List.set_cons_succ]
            refine wpAnyH_take (i := 3) (v := ?tv4) rfl (by kernel_rfl) (by kernel_rfl) (by kernel_rfl) (fun _ _ _ h => h) (Or.inl ⟨by rfl, ?ty4⟩) (by assumption) ?tr4
            case ty4 =>
              intro wx hSw
              go_simp
              all_goals with_reducible rfl
            try simp only [Act.put, List.getElem_toArray, List.getElem_cons_succ, List.getElem_cons_zero, List.setIfInBounds_toArray, List.set_cons_zero, List.set_cons_succ]
            refine wpAnyH_take (i := 4) (v := ?tv5) rfl (by kernel_rfl) (by kernel_rfl) (by kernel_rfl) (fun _ _ _ h => h) (Or.inl ⟨by rfl, ?ty5⟩) (by assumption) ?tr5
            case ty5 =>
              intro wx hSw
              go_simp
              all_goals with_reducible rfl
            try simp only [Act.put, List.getElem_toArray, List.getElem_cons_succ, List.getElem_cons_zero, List.setIfInBounds_toArray, List.set_cons_zero, List.set_cons_succ]
            refine wpAnyH_take (i := 5) (v := ?tv6) rfl (by kernel_rfl) (by kernel_rfl) (by kernel_rfl) (fun _ _ _ h => h) (Or.inl ⟨by rfl, ?ty6⟩) (by assumption) ?tr6
            case ty6 =>
              intro wx hSw
              go_simp
              all_goals with_reducible rfl
            try simp only [Act.put, List.getElem_toArray, List.getElem_cons_succ, List.getElem_cons_zero, List.setIfInBounds_toArray, List.set_cons_zero, List.set_cons_succ]
            refine wpAnyH_ready (rs := [6]) (by kernel_rfl) (by simp) ?_
            refine AllReadyH.cons rfl (fun K hK => ?_) AllReadyH.nil
            go_simp
            refine (HMF.out _ (Below.refl _ _).drew).mono ?_
            rintro e w1 ⟨rfl, hc1⟩
            have hbF : Below wr.heap.size wr w1 := Below.next (Below.refl _ _).drew hc1
            try go_simp
            refine hK.out _ _ trivial (fun hHeld => ?_)
            clear hK K
            try simp only [Act.put, List.getElem_toArray, List.getElem_cons_succ, List.getElem_cons_zero, List.setIfInBounds_toArray, List.set_cons_zero, List.set_cons_succ]
            refine wpAnyH_take (i := 7) (v := ?tv7) rfl (by kernel_rfl) (by kernel_rfl) (by kernel_rfl) (fun _ _ _ h => h) (Or.inl ⟨by rfl, ?ty7⟩) (by assumption) ?tr7
            case ty7 =>
              intro wx hSw
              go_simp
              all_goals with_reducible rfl
            try simp only [Act.put, List.getElem_toArray, List.getElem_cons_succ, List.getElem_cons_zero, List.setIfInBounds_toArray, List.set_cons_zero, List.set_cons_succ]
            refine wpAnyH_take (i := 8) (v := ?tv8) rfl (by kernel_rfl) (by kernel_rfl) (by kernel_rfl) (fun _ _ _ h => h) (Or.inl ⟨by rfl, ?ty8⟩) (by assumption) ?tr8
            case ty8 =>
              intro wx hSw
              go_simp
              all_goals with_reducible rfl
            try simp only [Act.put, List.getElem_toArray, List.getElem_cons_succ, List.getElem_cons_zero, List.setIfInBounds_toArray, List.set_cons_zero, List.set_cons_succ]
            refine wpAnyH_take (i := 9) (v := ?tv9) rfl (by kernel_rfl) (by kernel_rfl) (by kernel_rfl) (fun _ _ _ h => h) (Or.inl ⟨by rfl, ?ty9⟩) (by assumption) ?tr9
            case ty9 =>
              intro wx hSw
              go_simp
              all_goals with_reducible rfl
            try simp only [Act.put, List.getElem_toArray, List.getElem_cons_succ, List.getElem_cons_zero, List.setIfInBounds_toArray, List.set_cons_zero, List.set_cons_succ]
            refine wpAnyH_take (i := 10) (v := undef) rfl (by kernel_rfl) (by kernel_rfl) (by kernel_rfl) (fun _ _ _ h => h) (Or.inr ⟨by rfl, rfl⟩) (by assumption) ?tr10
            try simp only [Act.put, List.getElem_toArray, List.getElem_cons_succ, List.getElem_cons_zero, List.setIfInBounds_toArray, List.set_cons_zero, List.set_cons_succ]
            refine wpAnyH_take (i := 12) (v := undef) rfl (by kernel_rfl) (by kernel_rfl) (by kernel_rfl) (fun _ _ _ h => h) (Or.inr ⟨by rfl, rfl⟩) (by assumption) ?tr11
            try simp only [Act.put, List.getElem_toArray, List.getElem_cons_succ, List.getElem_cons_zero, List.setIfInBounds_toArray, List.set_cons_zero, List.set_cons_succ]
            refine wpAnyH_take (i := 13) (v := undef) rfl (by kernel_rfl) (by kernel_rfl) (by kernel_rfl) (fun _ _ _ h => h) (Or.inr ⟨by rfl, rfl⟩) (by assumption) ?tr12
            try simp only [Act.put, List.getElem_toArray, List.getElem_cons_succ, List.getElem_cons_zero, List.setIfInBounds_toArray, List.set_cons_zero, List.set_cons_succ]
            refine wpAnyH_take (i := 14) (v := undef) rfl (by kernel_rfl) (by kernel_rfl) (by kernel_rfl) (fun _ _ _ h => h) (Or.inr ⟨by rfl, rfl⟩) (by assumption) ?tr13
            try simp only [Act.put, List.getElem_toArray, List.getElem_cons_succ, List.getElem_cons_zero, List.setIfInBounds_toArray, List.set_cons_zero, List.set_cons_succ]
            refine wpAnyH_take (i := 15) (v := undef) rfl (by kernel_rfl) (by kernel_rfl) (by kernel_rfl) (fun _ _ _ h => h) (Or.inr ⟨by rfl, rfl⟩) (by assumption) ?tr14
            try simp only [Act.put, List.getElem_toArray, List.getElem_cons_succ, List.getElem_cons_zero, List.setIfInBounds_toArray, List.set_cons_zero, List.set_cons_succ]
            refine wpAnyH_take (i := 11) (v := undef) rfl (by kernel_rfl) (by kernel_rfl) (by kernel_rfl) (fun _ _ _ h => h) (Or.inr ⟨by rfl, rfl⟩) (by assumption) ?tr15
            try simp only [Act.put, List.getElem_toArray, List.getElem_cons_succ, List.getElem_cons_zero, List.setIfInBounds_toArray, List.set_cons_zero, List.set_cons_succ]
            refine wpAnyH_take (i := 16) (v := undef) rfl (by kernel_rfl) (by kernel_rfl) (by kernel_rfl) (fun _ _ _ h => h) (Or.inr ⟨by rfl, rfl⟩) (by assumption) ?tr16
            try simp only [Act.put, List.getElem_toArray, List.getElem_cons_succ, List.getElem_cons_zero, List.setIfInBounds_toArray, List.set_cons_zero, List.set_cons_succ]
            refine wpAnyH_take (i := 17) (v := ?tv17) rfl (by kernel_rfl) (by kernel_rfl) (by kernel_rfl) (fun _ _ _ h => h) (Or.inl ⟨by rfl, ?ty17⟩) (by assumption) ?tr17
            case ty17 =>
              intro wx hSw
              go_simp
              all_goals with_reducible rfl
            try simp only [Act.put, List.getElem_toArray, List.getElem_cons_succ, List.getElem_cons_zero, List.setIfInBounds_toArray, List.set_cons_zero, List.set_cons_succ]
            refine wpAnyH_done (by kernel_rfl) ?_ _
            go_wp2
            go_ret3
            exact maA _ [] ⟨#[]⟩ false rfl (OwnX.nil _ _ _ _ _) HR.out mtOk_nil (Below.next hB hbF)
        · have e1 : ((s[k].toNat : Int) != 125) = true := u8b c1
          have HD := hide (drop_cons hlt)
          have HNE : Hid (∀ t, (P.dl s).drop k ≠ 125 :: t) := fun t e => c1 (List.cons.inj (HD.out.symm.trans e)).1
          clear c1
          go_upto_if 29 with fail
          go_cut [6] (fun i wc => ∃ k1 : Nat, k ≤ k1 ∧ k1 ≤ s.size ∧ i = .int .i64 k1 ∧ P.AtM (P.dl s) k1 out ∧ L ≤ k1 ∧ wr = wc)
          case first =>
            by_cases ho : L = 0
            · have ho2 : decide (0 < (L : Int)) = false := by rw [decide_eq_false_iff_not]; omega
              have ho3 : decide (0 < L) = false := by rw [decide_eq_false_iff_not]; omega
              have hon : out = [] := List.length_eq_zero_iff.1 (HLL.out.trans ho)
              have HM : Hid (P.AtM (P.dl s) k out) := by
                have h1 := HAT.out
                rw [hon] at h1 ⊢
                exact P.At.first h1 HNE.out
              clear ho hon HD HNE HAT
              simp only [ho3]
              go_wp2
              go_meet
              exact ⟨k, by omega, by omega, rfl, HM.out, hol, rfl⟩
            · have ho2 : decide (0 < (L : Int)) = true := by rw [decide_eq_true_eq]; omega
              have ho3 : decide (0 < L) = true := by rw [decide_eq_true_eq]; omega
              have hon : out ≠ [] := fun e => ho (by rw [← HLL.out, e]; rfl)
              by_cases c2 : s[k] = 44
              · have e2 : ((s[k].toNat : Int) != 44) = false := by rw [c2]; decide
                have HM := hide (P.At.comma HAT.out hon HNE.out)
                clear ho hon HD HNE HAT c2
                simp only [ho3]
                go_wp2
                go_meet
                exact ⟨k + 1, by omega, by omega, by go_num, HM.out, by omega, rfl⟩
              · have e2 : ((s[k].toNat : Int) != 44) = true := u8b c2
                have HR := hide (P.Ma_no (P.At.nocomma HAT.out hon HNE.out (fun t e => c2 (List.cons.inj (HD.out.symm.trans e)).1)))
                clear ho hon HD HNE HAT c2
                simp only [ho3]
                go_wp2
                go_ret3
                exact maA _ [] ⟨#[]⟩ false rfl (OwnX.nil _ _ _ _ _) HR.out mtOk_nil hB
          case rest =>
            obtain ⟨k1, hka, hkb, rfl, hatm, hol1, rfl⟩ := hcut
            have HM := hide hatm
            clear hatm HAT HNE HD
            have hx0 := BoxM.new wr (0, ⟨#[]⟩, ⟨#[]⟩)
            simp only at hx0
            have HX0 := hide hx0
            clear hx0
            go_upto_block 2 with fail
            go_cut [6] (fun i wx => ∃ (j : Nat) (n : ByteArray), i = .int .i64 j ∧ NmR s k1 wr.heap.size (wr.alloc (.cells #[.int .i64 0, .string ⟨#[]⟩, .string ⟨#[]⟩] 49)) j n wx ∧ (∀ c t, (P.dl s).drop j = c :: t → P.sgB1 c = true))
            case first =>
              go_wp2_with fail
              go_loopw [6] (fun i wx => ∃ (j : Nat) (n : ByteArray), i = .int .i64 j ∧ NmR s k1 wr.heap.size (wr.alloc (.cells #[.int .i64 0, .string ⟨#[]⟩, .string ⟨#[]⟩] 49)) j n wx) (fun i _ => s.size - (intOf i).toNat)
              case atStart => exact ⟨k1, ⟨#[]⟩, rfl, Nat.le_refl _, hkb, HX0.out, But.refl _ _, rfl, rfl, Nat.zero_le _⟩
              case round =>
                obtain ⟨j, n, rfl, h1, h2, hbx, hbut, hdr, ha, hz⟩ := hrel
                have HBX := hide hbx
                have HBU := hide hbut
                have HDR := hide hdr
                have HA := hide ha
                clear hbx hbut hdr ha HX0
                by_cases hj : j < s.size
                · have hdj : decide ((j : Int) < (s.size : Int)) = true := by simp; omega
                  have hbj : s[j].toNat < 256 := s[j].toNat_lt
                  have HD := hide (drop_cons hj)
                  by_cases c2 : s[j] = 61
                  · have e2 : ((s[j].toNat : Int) != 61) = false := by rw [c2]; decide
                    have HE : Hid (∀ c t, (P.dl s).drop j = c :: t → P.sgB1 c = true) := fun c t e => by
                      rw [← (List.cons.inj (HD.out.symm.trans e)).1, c2]; decide
                    clear c2
                    go_wp2
                    go_meet
                    exact ⟨j, n, rfl, ⟨h1, h2, HBX.out, HBU.out, HDR.out, HA.out, hz⟩, HE.out⟩
                  by_cases c3 : s[j] = 33
                  · have e2 : ((s[j].toNat : Int) != 61) = true := u8b c2
                    have e3 : ((s[j].toNat : Int) != 33) = false := by rw [c3]; decide
                    have HE : Hid (∀ c t, (P.dl s).drop j = c :: t → P.sgB1 c = true) := fun c t e => by
                      rw [← (List.cons.inj (HD.out.symm.trans e)).1, c3]; decide
                    clear c2 c3
                    go_wp2
                    go_meet
                    exact ⟨j, n, rfl, ⟨h1, h2, HBX.out, HBU.out, HDR.out, HA.out, hz⟩, HE.out⟩
                  have e2 : ((s[j].toNat : Int) != 61) = true := u8b c2
                  have e3 : ((s[j].toNat : Int) != 33) = true := u8b c3
                  have HS : Hid (P.sgB1 s[j] = false) := by
                    show _ = _
                    unfold P.sgB1
                    rw [Bool.or_eq_false_iff, beq_eq_false_iff_ne, beq_eq_false_iff_ne]; exact ⟨c2, c3⟩
                  clear c2 c3
                  have x1 := HBX.out.c1
                  have f1 := HBX.out.unfrozen 1
                  simp only at x1
                  have hex := ex_one s j hj
                  have hez : (s.extract j (j + 1)).size = 1 := by rw [P.dl_size (s.extract j (j + 1)), hex]; rfl
                  have z1 : ¬ 9223372036854775807 < n.size + (s.extract j (j + 1)).size := by omega
                  have HEX := hide hex
                  have HEZ := hide hez
                  clear hex hez
                  have jw : IntKind.i64.wrap ((j : Int) + 1) = ((j + 1 : Nat) : Int) := by rw [IntKind.wrap_i64]; omega
                  have j2 : ((j + 1 : Nat) : Int) ≤ (s.size : Int) := by omega
                  go_wp2
                  go_region
                  all_goals
                    go_wp2
                    go_roundw
                    case rel =>
                      refine ⟨j + 1, n ++ s.extract j (j + 1), by go_num, by omega, by omega, (HBX.out.set1 _).drew, (HBU.out.setCell 1 _).drew, ?_, ?_, ?_⟩
                      · rw [P.dl_app, HEX.out, HDR.out, HD.out]; simp
                      · rw [P.dl_app, HEX.out, List.all_append, HA.out]; simp only [List.all_cons, List.all_nil, HS.out]; rfl
                      · rw [P.dl_size, P.dl_app, List.length_append, ← P.dl_size, ← P.dl_size, HEZ.out]; omega
                    case measure => simp [intOf]; omega
                · have hdj : decide ((j : Int) < (s.size : Int)) = false := by simp; omega
                  have HE : Hid (∀ c t, (P.dl s).drop j = c :: t → P.sgB1 c = true) := fun c t e => by
                    rw [drop_end (by omega)] at e; cases e
                  go_wp2
                  go_meet
                  exact ⟨j, n, rfl, ⟨h1, h2, HBX.out, HBU.out, HDR.out, HA.out, hz⟩, HE.out⟩
            case rest =>
              obtain ⟨j, n, rfl, ⟨hj1, hj2, hbx, hbut, hdr, ha, hnz⟩, hend⟩ := hcut
              have HN := hide (P.AtM.name HM.out hdr ha hend)
              have HBX := hide hbx
              have HBU := hide hbut
              clear hdr ha hend hbx hbut HM HX0
              have hjs : (j : Int) ≤ (s.size : Int) := by omega
              have hexd : P.dl (s.extract j s.size) = (P.dl s).drop j := by rw [P.dl_extract, List.take_of_length_le (by simp)]
              have hexz := ex_size s j
              have HBeg := hide (fun p w (hp : p.size ≤ 9223372036854775807) => begins_any (s.extract j s.size) p w (by omega) hp)
              rw [hexd] at HBeg
              clear hexd hexz
              have hb4 : ∀ t, P.Kd t → Lib.hasPrefix ((P.dl s).drop j) (P.sgK t ++ [34]) = true → j + (P.sgK t ++ [34]).length ≤ s.size := fun t _ h => by
                unfold Lib.hasPrefix at h
                rw [List.isPrefixOf_iff_prefix] at h
                have h2 := h.length_le
                rw [List.length_drop, ← P.dl_size] at h2
                omega
              have HB4 := hide hb4
              clear hb4
              go_upto_block 4 with fail
              go_cut [6] (fun i wx => ∃ (j' : Nat) (kd : Int), i = .int .i64 j' ∧ j ≤ j' ∧ j' ≤ s.size ∧ BoxM wx wr.heap.size (kd, n, ⟨#[]⟩) ∧ But wr.heap.size (wr.alloc (.cells #[.int .i64 0, .string ⟨#[]⟩, .string ⟨#[]⟩] 49)) wx ∧ ((kd = 0 ∧ ∀ m r, P.chkM m = 0 → P.dl s ≠ P.txt m ++ r) ∨ (P.Kd kd ∧ j < j' ∧ P.AtQ (P.dl s) j' out (P.dl n) kd)))
              case first =>
                have W4 := HBU.out.alloc (.cells #[.string ⟨#[]⟩, .string ⟨#[61, 34]⟩, .string ⟨#[33, 61, 34]⟩, .string ⟨#[61, 94, 34]⟩, .string ⟨#[61, 126, 34]⟩] 9)
                have X4 := HBX.out.next ((Below.refl _ wc).alloc (Nat.le_refl _) (.cells #[.string ⟨#[]⟩, .string ⟨#[61, 34]⟩, .string ⟨#[33, 61, 34]⟩, .string ⟨#[61, 94, 34]⟩, .string ⟨#[61, 126, 34]⟩] 9))
                have HW4 := hide W4
                have HX4 := hide X4
                have x0 := X4.c0
                have f0 := X4.unfrozen 0
                simp only at x0
                clear W4 X4
                have B1 : Hid (∀ w, Calls Try.prog 37 #[.string (s.extract j s.size), .string ⟨#[61, 34]⟩] w fun e w' => e = .returned (.bool (Lib.hasPrefix ((P.dl s).drop j) (P.sgK 1 ++ [34]))) ∧ w' = w) := fun w => HBeg.out _ w (by decide)
                have B2 : Hid (∀ w, Calls Try.prog 37 #[.string (s.extract j s.size), .string ⟨#[33, 61, 34]⟩] w fun e w' => e = .returned (.bool (Lib.hasPrefix ((P.dl s).drop j) (P.sgK 2 ++ [34]))) ∧ w' = w) := fun w => HBeg.out _ w (by decide)
                have B3 : Hid (∀ w, Calls Try.prog 37 #[.string (s.extract j s.size), .string ⟨#[61, 94, 34]⟩] w fun e w' => e = .returned (.bool (Lib.hasPrefix ((P.dl s).drop j) (P.sgK 3 ++ [34]))) ∧ w' = w) := fun w => HBeg.out _ w (by decide)
                have B4 : Hid (∀ w, Calls Try.prog 37 #[.string (s.extract j s.size), .string ⟨#[61, 126, 34]⟩] w fun e w' => e = .returned (.bool (Lib.hasPrefix ((P.dl s).drop j) (P.sgK 4 ++ [34]))) ∧ w' = w) := fun w => HBeg.out _ w (by decide)
                clear HBeg
                cases b1 : Lib.hasPrefix ((P.dl s).drop j) (P.sgK 1 ++ [34]) with
                | true =>
                  rw [b1] at B1
                  have HQ := hide (P.AtN.sign HN.out (by decide) b1)
                  have hz5 : j + 2 ≤ s.size := HB4.out 1 (by decide) b1
                  clear b1
                  go_wp2_with fail
                  refine wp_loop_rounds 6 ?_
                  rw [rounds_succ]
                  go_wp2_with (first | (go_at_call 37; with_reducible refine (B1.out _).mono ?_; rintro e w9 ⟨rfl, rfl⟩) | (go_at_call 37; with_reducible refine (B2.out _).mono ?_; rintro e w9 ⟨rfl, rfl⟩) | (go_at_call 37; with_reducible refine (B3.out _).mono ?_; rintro e w9 ⟨rfl, rfl⟩) | (go_at_call 37; with_reducible refine (B4.out _).mono ?_; rintro e w9 ⟨rfl, rfl⟩))
                  rw [rounds_succ]
                  go_wp2_with (first | (go_at_call 37; with_reducible refine (B1.out _).mono ?_; rintro e w9 ⟨rfl, rfl⟩) | (go_at_call 37; with_reducible refine (B2.out _).mono ?_; rintro e w9 ⟨rfl, rfl⟩) | (go_at_call 37; with_reducible refine (B3.out _).mono ?_; rintro e w9 ⟨rfl, rfl⟩) | (go_at_call 37; with_reducible refine (B4.out _).mono ?_; rintro e w9 ⟨rfl, rfl⟩))
                  go_meet
                  exact ⟨j + 2, 1, by go_num, by omega, hz5, (HX4.out.set0 1), HW4.out.setCell 0 _, .inr ⟨by decide, by omega, HQ.out⟩⟩
                | false =>
                  rw [b1] at B1
                  cases b2 : Lib.hasPrefix ((P.dl s).drop j) (P.sgK 2 ++ [34]) with
                  | true =>
                    rw [b2] at B2
                    have HQ := hide (P.AtN.sign HN.out (by decide) b2)
                    have hz5 : j + 3 ≤ s.size := HB4.out 2 (by decide) b2
                    clear b2
                    go_wp2_with fail
                    refine wp_loop_rounds 6 ?_
                    rw [rounds_succ]
                    go_wp2_with (first | (go_at_call 37; with_reducible refine (B1.out _).mono ?_; rintro e w9 ⟨rfl, rfl⟩) | (go_at_call 37; with_reducible refine (B2.out _).mono ?_; rintro e w9 ⟨rfl, rfl⟩) | (go_at_call 37; with_reducible refine (B3.out _).mono ?_; rintro e w9 ⟨rfl, rfl⟩) | (go_at_call 37; with_reducible refine (B4.out _).mono ?_; rintro e w9 ⟨rfl, rfl⟩))
                    rw [rounds_succ]
                    go_wp2_with (first | (go_at_call 37; with_reducible refine (B1.out _).mono ?_; rintro e w9 ⟨rfl, rfl⟩) | (go_at_call 37; with_reducible refine (B2.out _).mono ?_; rintro e w9 ⟨rfl, rfl⟩) | (go_at_call 37; with_reducible refine (B3.out _).mono ?_; rintro e w9 ⟨rfl, rfl⟩) | (go_at_call 37; with_reducible refine (B4.out _).mono ?_; rintro e w9 ⟨rfl, rfl⟩))
                    rw [rounds_succ]
                    go_wp2_with (first | (go_at_call 37; with_reducible refine (B1.out _).mono ?_; rintro e w9 ⟨rfl, rfl⟩) | (go_at_call 37; with_reducible refine (B2.out _).mono ?_; rintro e w9 ⟨rfl, rfl⟩) | (go_at_call 37; with_reducible refine (B3.out _).mono ?_; rintro e w9 ⟨rfl, rfl⟩) | (go_at_call 37; with_reducible refine (B4.out _).mono ?_; rintro e w9 ⟨rfl, rfl⟩))
                    go_meet
                    exact ⟨j + 3, 2, by go_num, by omega, hz5, (HX4.out.set0 2), HW4.out.setCell 0 _, .inr ⟨by decide, by omega, HQ.out⟩⟩
                  | false =>
                    rw [b2] at B2
                    cases b3 : Lib.hasPrefix ((P.dl s).drop j) (P.sgK 3 ++ [34]) with
                    | true =>
                      rw [b3] at B3
                      have HQ := hide (P.AtN.sign HN.out (by decide) b3)
                      have hz5 : j + 3 ≤ s.size := HB4.out 3 (by decide) b3
                      clear b3
                      go_wp2_with fail
                      refine wp_loop_rounds 6 ?_
                      rw [rounds_succ]
                      go_wp2_with (first | (go_at_call 37; with_reducible refine (B1.out _).mono ?_; rintro e w9 ⟨rfl, rfl⟩) | (go_at_call 37; with_reducible refine (B2.out _).mono ?_; rintro e w9 ⟨rfl, rfl⟩) | (go_at_call 37; with_reducible refine (B3.out _).mono ?_; rintro e w9 ⟨rfl, rfl⟩) | (go_at_call 37; with_reducible refine (B4.out _).mono ?_; rintro e w9 ⟨rfl, rfl⟩))
                      rw [rounds_succ]
                      go_wp2_with (first | (go_at_call 37; with_reducible refine (B1.out _).mono ?_; rintro e w9 ⟨rfl, rfl⟩) | (go_at_call 37; with_reducible refine (B2.out _).mono ?_; rintro e w9 ⟨rfl, rfl⟩) | (go_at_call 37; with_reducible refine (B3.out _).mono ?_; rintro e w9 ⟨rfl, rfl⟩) | (go_at_call 37; with_reducible refine (B4.out _).mono ?_; rintro e w9 ⟨rfl, rfl⟩))
                      rw [rounds_succ]
                      go_wp2_with (first | (go_at_call 37; with_reducible refine (B1.out _).mono ?_; rintro e w9 ⟨rfl, rfl⟩) | (go_at_call 37; with_reducible refine (B2.out _).mono ?_; rintro e w9 ⟨rfl, rfl⟩) | (go_at_call 37; with_reducible refine (B3.out _).mono ?_; rintro e w9 ⟨rfl, rfl⟩) | (go_at_call 37; with_reducible refine (B4.out _).mono ?_; rintro e w9 ⟨rfl, rfl⟩))
                      rw [rounds_succ]
                      go_wp2_with (first | (go_at_call 37; with_reducible refine (B1.out _).mono ?_; rintro e w9 ⟨rfl, rfl⟩) | (go_at_call 37; with_reducible refine (B2.out _).mono ?_; rintro e w9 ⟨rfl, rfl⟩) | (go_at_call 37; with_reducible refine (B3.out _).mono ?_; rintro e w9 ⟨rfl, rfl⟩) | (go_at_call 37; with_reducible refine (B4.out _).mono ?_; rintro e w9 ⟨rfl, rfl⟩))
                      go_meet
                      exact ⟨j + 3, 3, by go_num, by omega, hz5, (HX4.out.set0 3), HW4.out.setCell 0 _, .inr ⟨by decide, by omega, HQ.out⟩⟩
                    | false =>
                      rw [b3] at B3
                      cases b4 : Lib.hasPrefix ((P.dl s).drop j) (P.sgK 4 ++ [34]) with
                      | true =>
                        rw [b4] at B4
                        have HQ := hide (P.AtN.sign HN.out (by decide) b4)
                        have hz5 : j + 3 ≤ s.size := HB4.out 4 (by decide) b4
                        clear b4
                        go_wp2_with fail
                        refine wp_loop_rounds 6 ?_
                        rw [rounds_succ]
                        go_wp2_with (first | (go_at_call 37; with_reducible refine (B1.out _).mono ?_; rintro e w9 ⟨rfl, rfl⟩) | (go_at_call 37; with_reducible refine (B2.out _).mono ?_; rintro e w9 ⟨rfl, rfl⟩) | (go_at_call 37; with_reducible refine (B3.out _).mono ?_; rintro e w9 ⟨rfl, rfl⟩) | (go_at_call 37; with_reducible refine (B4.out _).mono ?_; rintro e w9 ⟨rfl, rfl⟩))
                        rw [rounds_succ]
                        go_wp2_with (first | (go_at_call 37; with_reducible refine (B1.out _).mono ?_; rintro e w9 ⟨rfl, rfl⟩) | (go_at_call 37; with_reducible refine (B2.out _).mono ?_; rintro e w9 ⟨rfl, rfl⟩) | (go_at_call 37; with_reducible refine (B3.out _).mono ?_; rintro e w9 ⟨rfl, rfl⟩) | (go_at_call 37; with_reducible refine (B4.out _).mono ?_; rintro e w9 ⟨rfl, rfl⟩))
                        rw [rounds_succ]
                        go_wp2_with (first | (go_at_call 37; with_reducible refine (B1.out _).mono ?_; rintro e w9 ⟨rfl, rfl⟩) | (go_at_call 37; with_reducible refine (B2.out _).mono ?_; rintro e w9 ⟨rfl, rfl⟩) | (go_at_call 37; with_reducible refine (B3.out _).mono ?_; rintro e w9 ⟨rfl, rfl⟩) | (go_at_call 37; with_reducible refine (B4.out _).mono ?_; rintro e w9 ⟨rfl, rfl⟩))
                        rw [rounds_succ]
                        go_wp2_with (first | (go_at_call 37; with_reducible refine (B1.out _).mono ?_; rintro e w9 ⟨rfl, rfl⟩) | (go_at_call 37; with_reducible refine (B2.out _).mono ?_; rintro e w9 ⟨rfl, rfl⟩) | (go_at_call 37; with_reducible refine (B3.out _).mono ?_; rintro e w9 ⟨rfl, rfl⟩) | (go_at_call 37; with_reducible refine (B4.out _).mono ?_; rintro e w9 ⟨rfl, rfl⟩))
                        rw [rounds_succ]
                        go_wp2_with (first | (go_at_call 37; with_reducible refine (B1.out _).mono ?_; rintro e w9 ⟨rfl, rfl⟩) | (go_at_call 37; with_reducible refine (B2.out _).mono ?_; rintro e w9 ⟨rfl, rfl⟩) | (go_at_call 37; with_reducible refine (B3.out _).mono ?_; rintro e w9 ⟨rfl, rfl⟩) | (go_at_call 37; with_reducible refine (B4.out _).mono ?_; rintro e w9 ⟨rfl, rfl⟩))
                        go_meet
                        exact ⟨j + 3, 4, by go_num, by omega, hz5, (HX4.out.set0 4), HW4.out.setCell 0 _, .inr ⟨by decide, by omega, HQ.out⟩⟩
                      | false =>
                        rw [b4] at B4
                        have HNO := hide (P.AtN.nosign HN.out (fun t ht => by
                          have h4 : t = 1 ∨ t = 2 ∨ t = 3 ∨ t = 4 := by have := ht.1; have := ht.2; omega
                          rcases h4 with rfl | rfl | rfl | rfl
                          · exact b1
                          · exact b2
                          · exact b3
                          · exact b4))
                        clear b1 b2 b3 b4
                        go_wp2_with fail
                        refine wp_loop_rounds 6 ?_
                        rw [rounds_succ]
                        go_wp2_with (first | (go_at_call 37; with_reducible refine (B1.out _).mono ?_; rintro e w9 ⟨rfl, rfl⟩) | (go_at_call 37; with_reducible refine (B2.out _).mono ?_; rintro e w9 ⟨rfl, rfl⟩) | (go_at_call 37; with_reducible refine (B3.out _).mono ?_; rintro e w9 ⟨rfl, rfl⟩) | (go_at_call 37; with_reducible refine (B4.out _).mono ?_; rintro e w9 ⟨rfl, rfl⟩))
                        rw [rounds_succ]
                        go_wp2_with (first | (go_at_call 37; with_reducible refine (B1.out _).mono ?_; rintro e w9 ⟨rfl, rfl⟩) | (go_at_call 37; with_reducible refine (B2.out _).mono ?_; rintro e w9 ⟨rfl, rfl⟩) | (go_at_call 37; with_reducible refine (B3.out _).mono ?_; rintro e w9 ⟨rfl, rfl⟩) | (go_at_call 37; with_reducible refine (B4.out _).mono ?_; rintro e w9 ⟨rfl, rfl⟩))
                        rw [rounds_succ]
                        go_wp2_with (first | (go_at_call 37; with_reducible refine (B1.out _).mono ?_; rintro e w9 ⟨rfl, rfl⟩) | (go_at_call 37; with_reducible refine (B2.out _).mono ?_; rintro e w9 ⟨rfl, rfl⟩) | (go_at_call 37; with_reducible refine (B3.out _).mono ?_; rintro e w9 ⟨rfl, rfl⟩) | (go_at_call 37; with_reducible refine (B4.out _).mono ?_; rintro e w9 ⟨rfl, rfl⟩))
                        rw [rounds_succ]
                        go_wp2_with (first | (go_at_call 37; with_reducible refine (B1.out _).mono ?_; rintro e w9 ⟨rfl, rfl⟩) | (go_at_call 37; with_reducible refine (B2.out _).mono ?_; rintro e w9 ⟨rfl, rfl⟩) | (go_at_call 37; with_reducible refine (B3.out _).mono ?_; rintro e w9 ⟨rfl, rfl⟩) | (go_at_call 37; with_reducible refine (B4.out _).mono ?_; rintro e w9 ⟨rfl, rfl⟩))
                        rw [rounds_succ]
                        go_wp2_with (first | (go_at_call 37; with_reducible refine (B1.out _).mono ?_; rintro e w9 ⟨rfl, rfl⟩) | (go_at_call 37; with_reducible refine (B2.out _).mono ?_; rintro e w9 ⟨rfl, rfl⟩) | (go_at_call 37; with_reducible refine (B3.out _).mono ?_; rintro e w9 ⟨rfl, rfl⟩) | (go_at_call 37; with_reducible refine (B4.out _).mono ?_; rintro e w9 ⟨rfl, rfl⟩))
                        rw [rounds_succ]
                        go_wp2_with (first | (go_at_call 37; with_reducible refine (B1.out _).mono ?_; rintro e w9 ⟨rfl, rfl⟩) | (go_at_call 37; with_reducible refine (B2.out _).mono ?_; rintro e w9 ⟨rfl, rfl⟩) | (go_at_call 37; with_reducible refine (B3.out _).mono ?_; rintro e w9 ⟨rfl, rfl⟩) | (go_at_call 37; with_reducible refine (B4.out _).mono ?_; rintro e w9 ⟨rfl, rfl⟩))
                        go_meet
                        exact ⟨j, 0, rfl, Nat.le_refl _, hj2, HX4.out, HW4.out, .inl ⟨rfl, HNO.out⟩⟩
              case rest =>
                obtain ⟨j1, kd, rfl, hja, hjb, hbx1, hbu1, hor⟩ := hcut
                have HBX1 := hide hbx1
                have HBU1 := hide hbu1
                have HBel : Hid (∀ wx, But wr.heap.size (wr.alloc (.cells #[.int .i64 0, .string ⟨#[]⟩, .string ⟨#[]⟩] 49)) wx → Below w.heap.size w wx) := fun wx h => (hB.alloc hB.size _).trans (h.below hB.size (by have := hB.size; simp; omega))
                have x0 := hbx1.c0
                simp only at x0
                clear hbx1 hbu1 HBX HBU HN HBeg HB4
                rcases hor with ⟨rfl, hno⟩ | ⟨hkd, hjj, hq⟩
                · have HR := hide (P.Ma_no hno)
                  clear hno
                  go_wp2
                  go_ret3
                  exact maA _ [] ⟨#[]⟩ false rfl (OwnX.nil _ _ _ _ _) HR.out mtOk_nil (HBel.out _ HBU1.out)
                have hk0 : (kd == 0) = false := by rw [beq_eq_false_iff_ne]; have := hkd.1; omega
                have HKD := hide hkd
                have HQ := hide hq
                clear hkd hq
                go_upto_block 6 with fail
                go_cut [6] (fun i wx => ∃ (j2 : Nat) (v : ByteArray), i = .int .i64 j2 ∧ (j1 ≤ j2 ∧ j2 ≤ s.size ∧ BoxM wx wr.heap.size (kd, n, v) ∧ But wr.heap.size (wr.alloc (.cells #[.int .i64 0, .string ⟨#[]⟩, .string ⟨#[]⟩] 49)) wx ∧ P.AtV (P.dl s) j2 out (P.dl n) kd (P.dl v) ∧ v.size ≤ j2) ∧ (∀ c t, (P.dl s).drop j2 = c :: t → c = 34))
                case first =>
                  go_wp2_with fail
                  go_loopw [6] (fun i wx => ∃ (j2 : Nat) (v : ByteArray), i = .int .i64 j2 ∧ (j1 ≤ j2 ∧ j2 ≤ s.size ∧ BoxM wx wr.heap.size (kd, n, v) ∧ But wr.heap.size (wr.alloc (.cells #[.int .i64 0, .string ⟨#[]⟩, .string ⟨#[]⟩] 49)) wx ∧ P.AtV (P.dl s) j2 out (P.dl n) kd (P.dl v) ∧ v.size ≤ j2)) (fun i _ => s.size - (intOf i).toNat)
                  case atStart => exact ⟨j1, ⟨#[]⟩, rfl, Nat.le_refl _, hjb, HBX1.out, HBU1.out, P.AtQ.val HQ.out, Nat.zero_le _⟩
                  case round =>
                    obtain ⟨j2, v, rfl, g1, g2, hbx, hbut, hav, hvz⟩ := hrel
                    have HBX := hide hbx
                    have HBU := hide hbut
                    have HAV := hide hav
                    clear hbx hbut hav HBX1 HBU1 HQ
                    by_cases hj : j2 < s.size
                    · have hdj : decide ((j2 : Int) < (s.size : Int)) = true := by simp; omega
                      have hbj : s[j2].toNat < 256 := s[j2].toNat_lt
                      have HD := hide (drop_cons hj)
                      by_cases c1 : s[j2] = 34
                      · have e1 : ((s[j2].toNat : Int) != 34) = false := by rw [c1]; decide
                        have HE : Hid (∀ c t, (P.dl s).drop j2 = c :: t → c = 34) := fun c t e => by
                          rw [← (List.cons.inj (HD.out.symm.trans e)).1]; exact c1
                        clear c1
                        go_wp2
                        go_meet
                        exact ⟨j2, v, rfl, ⟨g1, g2, HBX.out, HBU.out, HAV.out, hvz⟩, HE.out⟩
                      have e1 : ((s[j2].toNat : Int) != 34) = true := u8b c1
                      by_cases c2 : s[j2] = 92
                      · have e2 : ((s[j2].toNat : Int) == 92) = true := by rw [c2]; decide
                        by_cases hj3 : j2 + 1 = s.size
                        · have HR := hide (P.Ma_no (P.AtV.ends HAV.out (.inr (by rw [HD.out, c2, drop_end (by omega)]))))
                          have e3 : (((j2 : Int) + 1) == (s.size : Int)) = true := by rw [beq_iff_eq]; omega
                          clear c1 c2
                          go_wp2
                          go_ret3
                          exact maA _ [] ⟨#[]⟩ false rfl (OwnX.nil _ _ _ _ _) HR.out mtOk_nil (HBel.out _ HBU.out)
                        obtain ⟨J, hJ⟩ : ∃ J, J = j2 + 1 := ⟨_, rfl⟩
                        have hJl : J < s.size := by omega
                        have e3 : ((J : Int) == (s.size : Int)) = false := by rw [beq_eq_false_iff_ne]; omega
                        have HD2 : Hid ((P.dl s).drop j2 = 92 :: s[J] :: (P.dl s).drop (J + 1)) := by
                          show _ = _
                          subst hJ
                          rw [HD.out, c2, drop_cons hJl]
                        have HV : Hid (P.AtV (P.dl s) (J + 1) out (P.dl n) kd (P.dl v ++ [if s[J] = 110 then 10 else s[J]])) := by
                          have h1 := P.AtV.back HAV.out HD2.out
                          rw [show j2 + 2 = J + 1 by omega] at h1
                          exact h1
                        have hbj4 : s[J].toNat < 256 := s[J].toNat_lt
                        have jw0 : IntKind.i64.wrap ((j2 : Int) + 1) = (J : Int) := by rw [IntKind.wrap_i64]; omega
                        have hJ1 : J ≤ j2 + 1 := by omega
                        have hJ2 : j2 + 1 ≤ J := by omega
                        have hJi : (J : Int) < (s.size : Int) := by omega
                        clear c1 c2 hj3 hJ
                        by_cases c4 : s[J] = 110
                        · have e4 : ((s[J].toNat : Int) == 110) = true := by rw [c4]; decide
                          have HV2 : Hid (P.AtV (P.dl s) (J + 1) out (P.dl n) kd (P.dl v ++ [10])) := by
                            have h1 := HV.out
                            rw [if_pos c4] at h1
                            exact h1
                          have x2 := HBX.out.c2
                          have f2 := HBX.out.unfrozen 2
                          simp only at x2
                          have z1 : ¬ 9223372036854775807 < v.size + 1 := by omega
                          clear c4 HV
                          go_wp2
                          go_roundw
                          case rel =>
                            refine ⟨J + 1, v ++ ⟨#[10]⟩, by go_num, by omega, by omega, HBX.out.set2 _, HBU.out.setCell 2 _, ?_, ?_⟩
                            · rw [P.dl_app]; exact HV2.out
                            · rw [P.dl_size, P.dl_app, List.length_append, ← P.dl_size]; show v.size + 1 ≤ J + 1; omega
                          case measure => simp [intOf]; omega
                        · have e4 : ((s[J].toNat : Int) == 110) = false := u8n c4
                          have HV2 : Hid (P.AtV (P.dl s) (J + 1) out (P.dl n) kd (P.dl v ++ [s[J]])) := by
                            have h1 := HV.out
                            rw [if_neg c4] at h1
                            exact h1
                          clear c4 HV
                          have x2 := HBX.out.c2
                          have f2 := HBX.out.unfrozen 2
                          simp only at x2
                          have hex := ex_one s (J) hJl
                          have hez : (s.extract (J) (J + 1)).size = 1 := by rw [P.dl_size (s.extract (J) (J + 1)), hex]; rfl
                          have z1 : ¬ 9223372036854775807 < v.size + (s.extract (J) (J + 1)).size := by omega
                          have HEX := hide hex
                          have HEZ := hide hez
                          clear hex hez
                          have jw : IntKind.i64.wrap (((J : Nat) : Int) + 1) = ((J + 1 : Nat) : Int) := by rw [IntKind.wrap_i64]; omega
                          have jl : ((J + 1 : Nat) : Int) ≤ (s.size : Int) := by omega
                          go_wp2
                          go_region
                          all_goals
                            go_wp2
                            go_roundw
                            case rel =>
                              refine ⟨J + 1, v ++ s.extract (J) (J + 1), by go_num, by omega, by omega, (HBX.out.set2 _).drew, (HBU.out.setCell 2 _).drew, ?_, ?_⟩
                              · rw [P.dl_app, HEX.out]; exact HV2.out
                              · rw [P.dl_size, P.dl_app, List.length_append, ← P.dl_size, ← P.dl_size, HEZ.out]; omega
                            case measure => simp [intOf]; omega
                      · have e2 : ((s[j2].toNat : Int) == 92) = false := u8n c2
                        have HV2 : Hid (P.AtV (P.dl s) (j2 + 1) out (P.dl n) kd (P.dl v ++ [s[j2]])) := P.AtV.plain HAV.out HD.out c1 c2
                        clear c1 c2
                        have x2 := HBX.out.c2
                        have f2 := HBX.out.unfrozen 2
                        simp only at x2
                        have hex := ex_one s (j2) hj
                        have hez : (s.extract (j2) (j2 + 1)).size = 1 := by rw [P.dl_size (s.extract (j2) (j2 + 1)), hex]; rfl
                        have z1 : ¬ 9223372036854775807 < v.size + (s.extract (j2) (j2 + 1)).size := by omega
                        have HEX := hide hex
                        have HEZ := hide hez
                        clear hex hez
                        have jw : IntKind.i64.wrap (((j2 : Nat) : Int) + 1) = ((j2 + 1 : Nat) : Int) := by rw [IntKind.wrap_i64]; omega
                        have jl : ((j2 + 1 : Nat) : Int) ≤ (s.size : Int) := by omega
                        go_wp2
                        go_region
                        all_goals
                          go_wp2
                          go_roundw
                          case rel =>
                            refine ⟨j2 + 1, v ++ s.extract (j2) (j2 + 1), by go_num, by omega, by omega, (HBX.out.set2 _).drew, (HBU.out.setCell 2 _).drew, ?_, ?_⟩
                            · rw [P.dl_app, HEX.out]; exact HV2.out
                            · rw [P.dl_size, P.dl_app, List.length_append, ← P.dl_size, ← P.dl_size, HEZ.out]; omega
                          case measure => simp [intOf]; omega
                    · have hdj : decide ((j2 : Int) < (s.size : Int)) = false := by simp; omega
                      have HE : Hid (∀ c t, (P.dl s).drop j2 = c :: t → c = 34) := fun c t e => by
                        rw [drop_end (by omega)] at e; cases e
                      go_wp2
                      go_meet
                      exact ⟨j2, v, rfl, ⟨g1, g2, HBX.out, HBU.out, HAV.out, hvz⟩, HE.out⟩
                case rest =>
                  obtain ⟨j2, v, rfl, ⟨g1, g2, hbx, hbut, hav, hvz⟩, hend⟩ := hcut
                  have hb2 := HBel.out _ hbut
                  by_cases hj : j2 = s.size
                  · have e1 : ((j2 : Int) == (s.size : Int)) = true := by rw [beq_iff_eq]; omega
                    have HR := hide (P.Ma_no (P.AtV.ends hav (.inl (drop_end (by omega)))))
                    clear hav hend hbut hbx hj
                    go_wp2
                    go_ret3
                    exact maA _ [] ⟨#[]⟩ false rfl (OwnX.nil _ _ _ _ _) HR.out mtOk_nil hb2
                  · have e1 : ((j2 : Int) == (s.size : Int)) = false := by rw [beq_eq_false_iff_ne]; omega
                    have hj5 : j2 < s.size := by omega
                    have hd5 := drop_cons hj5
                    rw [hend _ _ hd5] at hd5
                    have HAT2 := hide (P.AtV.done hav hd5)
                    have own2 := OwnX.but HOWN.out hbut
                    have y0 := hbx.c0
                    have y1 := hbx.c1
                    have y2 := hbx.c2
                    simp only at y0 y1 y2
                    have hLL := HLL.out
                    have hlen : (out.length + 1) * 40 ≤ 140737488355328 := by omega
                    have HMO2 : Hid (MaOk s.size (out ++ [(kd, n, v)])) := fun x hx => by
                      rcases List.mem_append.1 hx with h | h
                      · exact HMO.out x h
                      · simp at h; subst h; exact ⟨HKD.out, by show n.size ≤ _; omega, by show v.size ≤ _; omega⟩
                    have HLe : Hid ((out ++ [(kd, n, v)]).length ≤ j2 + 1) := by show _ ≤ _; rw [List.length_append, hLL]; simp; omega
                    have HLN := hide hlen
                    clear hav hend hd5 hbut hbx hj hLL hlen
                    go_wp2_with (at_builtin; go_must (refine wp_oneM rfl _ _ rfl w.heap.size w.heap.size w _ _ out (kd, n, v) own2 hb2 (Nat.le_refl _) rfl _ rfl (by simp) HLN.out hb2.size ?_); intro v2 w2 own3 hb3 _ _)
                    go_roundw
                    case rel => exact ⟨j2 + 1, out ++ [(kd, n, v)], by omega, by omega, by go_num, own3, HLe.out, HAT2.out, HMO2.out, hb3⟩
                    case measure => simp [intOf]; omega
      · have hd : decide ((k : Int) < (s.size : Int)) = false := by simp; omega
        have e5 : ((k : Int) == (s.size : Int)) = true := by rw [beq_iff_eq]; omega
        have HR := hide (P.Ma_no (P.At.over HAT.out (drop_end (by omega))))
        go_wp2
        go_quiet (fail)
        go_wp2
        go_ret3
        exact maA _ [] ⟨#[]⟩ false rfl (OwnX.nil _ _ _ _ _) HR.out mtOk_nil (below_dn hB _)
  · have e0 : ((s[0].toNat : Int) != 123) = true := u8b c0
    have HR : Hid (P.Ma (P.dl s) [] (P.dl ⟨#[]⟩) false) := P.Ma_no (fun m' r' _ e => by
      obtain ⟨t, ht⟩ := P.dl_cons hp
      rw [ht] at e
      exact c0 (List.cons.inj e).1)
    clear c0
    go_enter Try.func21, Try.ntmps21
    go_wp2
    go_ret3
    exact maA _ [] _ false rfl (OwnX.nil _ _ _ _ _) HR.out mtOk_nil (Below.refl _ _)
end Go.Proofs.Ythdccpgjiogiaaa
