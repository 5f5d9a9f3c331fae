/- What fitting and Find do. -/
import Derived.Test.YtlghnnmgbdjgoaaIdxC
namespace Go.Proofs.Ytlghnnmgbdjgoaa
open Go.RowKit Go.Maps Go.ChangeMaps Go.Sort
set_option linter.unusedVariables false
/-- An index of these labels. -/
structure Ix (w : World) (bx : Nat) (L : List (List P.Lb)) : Prop where
  idx : ∃ B bm N F G, Idx w B bx bm N L.length F G (P.evTo L L.length) ∧ N ≤ 10000
  chk : ∀ i, i < L.length → P.chk (L.getD i []) = 0
  len : L.length ≤ 200
theorem Ix.below {w w' : World} {bx : Nat} {L : List (List P.Lb)} (h : Ix w bx L) (hb : Below w.heap.size w w') : Ix w' bx L := by
  obtain ⟨⟨B, bm, N, F, G, hi, hN⟩, h2, h3⟩ := h
  exact ⟨⟨B, bm, N, F, G, hi.below hb, hN⟩, h2, h3⟩
theorem Ix.lenE {w : World} {bx : Nat} {L : List (List P.Lb)} (h : Ix w bx L) : (P.evTo L L.length).length ≤ 10000 := by
  have h1 := P.evTo_len (L := L) L.length (fun i hi => P.chk_len (h.chk i hi))
  have := h.len
  omega
theorem Ix.val {w : World} {bx : Nat} {L : List (List P.Lb)} (h : Ix w bx L) : ∀ s v i, (s, v, i) ∈ P.evTo L L.length → v.size ≤ 40 := by
  intro s v i hm
  obtain ⟨j, hj, _, hm⟩ := P.mem_evTo.1 hm
  exact P.chk_val (h.chk j hj) _ hm
theorem apart_ix (w : World) (bx : Nat) (L : List (List P.Lb)) (h : Ix w bx L) (x : P.Mt) (fit : Bool) (hx : P.chkM [x] = 0) (mx : Int) (hm : w.cell? ⟨0, 0, none⟩ = some (.int .i64 mx)) :
    Calls Try.prog 69 #[.pointer (some ⟨bx, 0, none⟩), mtV x, .bool fit] w (ApPost w (P.evTo L L.length) x fit) := by
  obtain ⟨B, bm, N, F, G, hi, hN⟩ := h.idx
  exact apart_any w B bx bm N _ F G _ hi x fit hx hN h.lenE h.val mx hm
theorem others_ix (w : World) (bx : Nat) (L : List (List P.Lb)) (h : Ix w bx L) (v : Value) (l : List Int) (hr : RowK .i64 w v l) :
    Calls Try.prog 40 #[.pointer (some ⟨bx, 0, none⟩), v] w fun e w' => ∃ v', e = .returned v' ∧ OwnI w' w.heap.size v' (Q.notL L.length l) ∧ Below w.heap.size w w' := by
  obtain ⟨B, bm, N, F, G, hi, hN⟩ := h.idx
  have := h.len
  exact others_any w B bx bm N _ F G _ hi (by omega) v l hr
set_option maxHeartbeats 1000000 in
theorem fitting_any (w : World) (bx : Nat) (L : List (List P.Lb)) (h : Ix w bx L) (x : P.Mt) (hx : P.chkM [x] = 0) (mx : Int) (hm : w.cell? ⟨0, 0, none⟩ = some (.int .i64 mx)) :
    Calls Try.prog 41 #[.pointer (some ⟨bx, 0, none⟩), mtV x] w fun e w' => ∃ v l, e = .returned v ∧ RowK .i64 w' v l ∧ l.length ≤ 100010000 ∧ P.FitL L x l ∧ Below w.heap.size w w' := by
  have HV := hide (fun (W : World) (hb : Below w.heap.size w W) => fitsValue_any ⟨#[]⟩ x W hx (by decide) mx (keep_cell hm hb))
  have HA := hide (fun (fit : Bool) (W : World) (hb : Below w.heap.size w W) => apart_ix W bx L (h.below hb) x fit hx mx (keep_cell hm hb))
  have HO := hide (fun (W : World) (hb : Below w.heap.size w W) (v : Value) (l : List Int) (hr : RowK .i64 W v l) => others_ix W bx L (h.below hb) v l hr)
  have HT := hide (fun he l => P.fit_apart (x := x) (l := l) h.chk he)
  have HF := hide (fun he l => P.fit_others (x := x) (l := l) h.chk he)
  have HL := hide h.len
  have HN := hide (fun l => Q.notL_len L.length l)
  obtain ⟨k, n, u⟩ := x
  clear h hm hx
  have hB : Below w.heap.size w (w.alloc (.cells #[.int .i64 k, .string n, .string u] 56)) := (Below.refl _ w).alloc (Nat.le_refl _) _
  cases hfv : P.fv ⟨#[]⟩ (k, n, u) with
  | true =>
    have HV1 : Hid (∀ (W : World), Below w.heap.size w W → Calls Try.prog 68 #[.string ⟨#[]⟩, mtV (k, n, u)] W fun e w' => e = .returned (.bool true) ∧ Below W.heap.size W w') := fun W hb => by rw [← hfv]; exact HV.out W hb
    clear HV HT
    go_enter Try.func41, Try.ntmps41
    go_wp2_with fail
    refine (HV1.out _ hB).mono ?_
    rintro e w1 ⟨rfl, h1⟩
    have hB1 := Below.next hB h1
    have c0 : w1.cell? ⟨w.heap.size, 0, none⟩ = some (.int .i64 k) := keep_cell (by simp) h1
    have c1 : w1.cell? ⟨w.heap.size, 1, none⟩ = some (.string n) := keep_cell (by simp) h1
    have c2 : w1.cell? ⟨w.heap.size, 2, none⟩ = some (.string u) := keep_cell (by simp) h1
    clear hB h1 HV1
    go_wp2_with fail
    refine (HA.out false _ hB1).mono ?_
    rintro e w2 ⟨v, l, rfl, hr, hl, hap, h2⟩
    have HB2 := hide (Below.next hB1 h2)
    have HP := hide hap
    have HR := hide hr
    obtain ⟨a, ca, rfl, _⟩ := hr
    clear hB1 h2 hap c0 c1 c2 HA
    go_wp2_with fail
    refine (HO.out _ HB2.out _ l HR.out).mono ?_
    rintro e w3 ⟨v', rfl, ho, h3⟩
    have HO3 := hide ho
    obtain ⟨a', ca', rfl⟩ := OwnK.shape ho
    clear ho
    go_wp2
    go_ret
    refine ⟨_, _, rfl, OwnK.row HO3.out, ?_, HF.out hfv l (HP.out (by rw [hfv]; rfl)), Below.next HB2.out h3⟩
    have := HN.out l
    have := HL.out
    omega
  | false =>
    have HV1 : Hid (∀ (W : World), Below w.heap.size w W → Calls Try.prog 68 #[.string ⟨#[]⟩, mtV (k, n, u)] W fun e w' => e = .returned (.bool false) ∧ Below W.heap.size W w') := fun W hb => by rw [← hfv]; exact HV.out W hb
    clear HV HF HO
    go_enter Try.func41, Try.ntmps41
    go_wp2_with fail
    refine (HV1.out _ hB).mono ?_
    rintro e w1 ⟨rfl, h1⟩
    have hB1 := Below.next hB h1
    have c0 : w1.cell? ⟨w.heap.size, 0, none⟩ = some (.int .i64 k) := keep_cell (by simp) h1
    have c1 : w1.cell? ⟨w.heap.size, 1, none⟩ = some (.string n) := keep_cell (by simp) h1
    have c2 : w1.cell? ⟨w.heap.size, 2, none⟩ = some (.string u) := keep_cell (by simp) h1
    clear hB h1 HV1
    go_wp2_with fail
    refine (HA.out true _ hB1).mono ?_
    rintro e w2 ⟨v, l, rfl, hr, hl, hap, h2⟩
    have HB2 := hide (Below.next hB1 h2)
    have HP := hide hap
    have HR := hide hr
    obtain ⟨a, ca, rfl, _⟩ := hr
    clear hB1 h2 hap c0 c1 c2 HA
    go_wp2
    go_ret
    exact ⟨_, l, rfl, HR.out, hl, HT.out hfv l (HP.out (by rw [hfv]; rfl)), HB2.out⟩
theorem chk_nil : P.chk [] = 0 := by unfold P.chk; rw [if_neg (by simp)]; rfl
/-- What Find answers. -/
def fndL (L : List (List P.Lb)) (m : List P.Mt) : List Int := if P.chkM m = 0 then P.findL L m else []
def FdPost (w : World) (L : List (List P.Lb)) (m : List P.Mt) (e : Ending) (w' : World) : Prop :=
  ∃ v, e = .returned (.tuple #[v, .int .i64 (P.chkM m)]) ∧ OwnI w' w.heap.size v (fndL L m) ∧ Below w.heap.size w w'
theorem fdPost {w w' : World} {L : List (List P.Lb)} {m : List P.Mt} (v : Value) (c : Int) (l : List Int) (hc : c = P.chkM m) (hl : l = fndL L m) (ho : OwnI w' w.heap.size v l) (hb : Below w.heap.size w w') : FdPost w L m (.returned (.tuple #[v, .int .i64 c])) w' := by subst hc hl; exact ⟨v, rfl, ho, hb⟩
set_option maxHeartbeats 2000000 in
theorem find_any (w : World) (bx : Nat) (L : List (List P.Lb)) (h : Ix w bx L) (vm : Value) (m : List P.Mt) (hr : RowM w vm m) (hl : MtOk m) (mx : Int) (hm : w.cell? ⟨0, 0, none⟩ = some (.int .i64 mx)) :
    Calls Try.prog 15 #[.pointer (some ⟨bx, 0, none⟩), vm] w (FdPost w L m) := by
  have HE : Hid (P.fitsE [] m = P.chkM m) := by show _ = _; unfold P.fitsE; rw [if_pos chk_nil]
  have HF := hide (fits_any (.slice none 0 0) vm [] m w (RowX.nil _ _ _) (by intro x hx; cases hx) hr hl mx hm)
  rw [show P.fitsE [] m = P.chkM m from HE.out] at HF
  clear HE
  have HX := hide (fun (W : World) (hb : Below w.heap.size w W) => h.below hb)
  have HG := hide (fun (W : World) (hb : Below w.heap.size w W) (x : P.Mt) (hx : P.chkM [x] = 0) => fitting_any W bx L (h.below hb) x hx mx (keep_cell hm hb))
  have HO := hide (fun (W : World) (hb : Below w.heap.size w W) => others_ix W bx L (h.below hb) (.slice none 0 0) [] (rowK_nil _ _))
  have HL := hide h.len
  obtain ⟨a, cap, rfl, ⟨hlc, hmax, hnn⟩, hcase⟩ := hr
  unfold maxLen at hmax
  clear h hm
  generalize P.fitsB [] m = A at HF
  by_cases hz : P.chkM m = 0
  · have HZ := hide hz
    have HR : Hid (fndL L m = P.findL L m) := by show _ = _; unfold fndL; rw [if_pos hz]
    have HLN := hide (P.chkM_len hz)
    rw [hz] at HF
    clear hz
    go_enter Try.func15, Try.ntmps15
    go_wp2_with fail
    refine HF.out.mono ?_
    rintro e w1 ⟨rfl, h1⟩
    go_wp2_with fail
    refine (HO.out _ h1).mono ?_
    rintro e w2 ⟨v2, rfl, ho2, h2⟩
    have HB2 := hide (Below.next h1 h2)
    have HO2 : Hid (OwnI w2 w.heap.size v2 (P.findL L (m.take 0))) := by rw [List.take_zero, ← P.findL_nil]; exact OwnK.base ho2 h1.size
    obtain ⟨a2, c2, rfl⟩ := OwnK.shape ho2
    clear h1 h2 ho2 HO HF
    go_wp2
    go_loopw [23, 8] (fun i vf wr => ∃ (k : Nat), k ≤ m.length ∧ i = .int .i64 k ∧ OwnI wr w.heap.size vf (P.findL L (m.take k)) ∧ Below w.heap.size w wr) (fun i _ _ => m.length - (intOf i).toNat)
    case atStart => exact ⟨0, by omega, rfl, HO2.out, HB2.out⟩
    case round =>
      obtain ⟨k, hk, rfl, ho, hB⟩ := hrel
      have HOk := hide ho
      obtain ⟨a3, c3, rfl⟩ := OwnK.shape ho
      clear ho HO2 HB2
      by_cases hlt : k < m.length
      · rcases hcase with h | ⟨b, off, rfl, hbs, hcell⟩
        · rw [h] at hlt; simp at hlt
        have j0 : (0 : Int) ≤ (k : Int) := by omega
        have j1 : (k : Int) < (m.length : Int) := by omega
        obtain ⟨x, hx⟩ : ∃ x, m[k]? = some x := ⟨_, List.getElem?_eq_getElem hlt⟩
        obtain ⟨g0, g1, g2⟩ := RowM.at hcell hx
        have q0 := (hB.cell (p := ⟨b, off + k * 3, none⟩) hbs).trans g0
        have q1 := (hB.cell (p := ⟨b, off + k * 3 + 1, none⟩) hbs).trans g1
        have q2 := (hB.cell (p := ⟨b, off + k * 3 + 2, none⟩) hbs).trans g2
        have HT : Hid (m.take (k + 1) = m.take k ++ [x]) := by show _ = _; rw [List.take_add_one, hx]; rfl
        have HCX := hide (P.chkM_at HZ.out (List.mem_of_getElem? hx))
        have HLf := hide (P.findL_len L (m.take k))
        obtain ⟨xk, xn, xv⟩ := x
        have hBW : Below w.heap.size w (wr.alloc (.cells #[.int .i64 xk, .string xn, .string xv] 56)) := hB.alloc hB.size _
        have HBa : Hid (Below wr.heap.size wr (wr.alloc (.cells #[.int .i64 xk, .string xn, .string xv] 56))) := (Below.refl _ wr).alloc (Nat.le_refl _) _
        clear hcell g0 g1 g2 hx
        simp only at q0 q1 q2
        go_wp2_with fail
        refine (HG.out _ hBW (xk, xn, xv) HCX.out).mono ?_
        rintro e w3 ⟨v3, l3, rfl, hr3, hl3, hf3, h3⟩
        have HB3 := hide (Below.next hBW h3)
        have HS3 := hide (P.findL_step (m := m.take k) hf3)
        have HBn := hide (Below.next HBa.out h3)
        have HAN := hide (and_any w3 _ v3 (P.findL L (m.take k)) l3 ((OwnK.row HOk.out).below HBn.out (Nat.le_refl _)) hr3 (by have := HLf.out; have := HL.out; omega) (by omega) (by have := Q.andL_len (P.findL L (m.take k)) l3; have := HLf.out; have := HL.out; omega))
        obtain ⟨a4, c4, rfl, _⟩ := hr3
        clear hBW h3 hf3 q0 q1 q2 HBa HBn
        go_wp2_with fail
        refine HAN.out.mono ?_
        rintro e w4 ⟨v4, rfl, ho4, h4⟩
        have HO4 : Hid (OwnI w4 w.heap.size v4 (P.findL L (m.take (k + 1)))) := by rw [HT.out, ← HS3.out]; exact OwnK.base ho4 HB3.out.size
        obtain ⟨a5, c5, rfl⟩ := OwnK.shape ho4
        clear ho4 HAN
        go_wp2
        go_roundw
        case rel => exact ⟨k + 1, by omega, by go_num, HO4.out, Below.next HB3.out h4⟩
        case measure => simp [intOf]; omega
      · obtain rfl : k = m.length := by omega
        have hd : decide ((m.length : Int) < (m.length : Int)) = false := by simp
        go_wp2
        go_ret2
        exact fdPost _ _ _ HZ.out.symm (by rw [List.take_length]; exact HR.out.symm) HOk.out hB
  · have HR : Hid (fndL L m = []) := by show _ = _; unfold fndL; rw [if_neg hz]
    have hz3 : (P.chkM m != 0) = true := by simp [hz]
    generalize hcm : P.chkM m = co at HF hz3
    have HCM := hide hcm
    clear hz hcm
    go_enter Try.func15, Try.ntmps15
    go_wp2_with fail
    refine HF.out.mono ?_
    rintro e w1 ⟨rfl, h1⟩
    go_wp2
    go_ret2
    exact fdPost _ _ _ HCM.out.symm HR.out.symm (OwnK.nil _ _ _ _) h1
end Go.Proofs.Ytlghnnmgbdjgoaa
