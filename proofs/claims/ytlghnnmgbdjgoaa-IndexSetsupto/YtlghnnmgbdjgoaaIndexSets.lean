/- IndexSets, for whatever two lists of at most 1048576 numbers in all, and every number: And, Or and Not answer what the document says. -/
import Derived.Test.YtlghnnmgbdjgoaaSetS
namespace Go.Proofs.Ytlghnnmgbdjgoaa
open Go.RowKit Go.ChangeShapes Go.WideShapes Go.ChangeAt Go.Joins Go.Sort
set_option linter.unusedVariables false
/-- How the first loop stands. -/
def DedAt (w : World) (r a b : List Int) (i vo va : Value) (wr : World) : Prop :=
  ∃ k : Nat, k ≤ r.length ∧ i = .int .i64 k ∧ OwnI wr w.heap.size vo (Q.uq (r.take k)) ∧ OwnI wr w.heap.size va ((Q.uq (r.take k)).filter (Q.inB a b)) ∧ Apart vo va ∧ Below w.heap.size w wr
theorem uq_le (r : List Int) (k : Nat) : (Q.uq (r.take k)).length ≤ r.length := by
  have h1 := (Q.uq_both (r.take k)).2.2
  have h2 := List.length_take_le k r
  have h3 : (r.take k).length ≤ r.length := by rw [List.length_take]; omega
  omega
theorem apart_new {w w6 : World} {base : Nat} {vo vo' va : Value} {l : List Int} (hap : Apart vo va) (own : OwnI w base va l) (h : vo'.ownBlock = vo.ownBlock ∨ vo'.ownBlock = some (w.heap.size + 1)) : Apart vo' va := by
  intro k hk hk2
  rcases h with h | h
  · exact hap k (by rw [← h]; exact hk) hk2
  · rw [h] at hk
    have := (own.lt k hk2).2
    simp at hk
    omega
theorem apart_new2 {w w6 : World} {base : Nat} {vo va va' : Value} {l : List Int} (hap : Apart vo va) (own : OwnI w base vo l) (h : va'.ownBlock = va.ownBlock ∨ va'.ownBlock = some (w.heap.size + 1)) : Apart vo va' := by
  intro k hk hk2
  rcases h with h | h
  · exact hap k hk (by rw [← h]; exact hk2)
  · rw [h] at hk2
    have := (own.lt k hk).2
    simp at hk2
    omega
/-- What the rest of the statement asks for, behind the first loop and the two sorts. -/
structure Rest (w w4 : World) (va vb vn vo : Value) (a b : List Int) : Prop where
  bel : Below w.heap.size w w4
  ra : RowK .i64 w4 va a
  rb : RowK .i64 w4 vb b
  rn : RowK .i64 w4 vn (Q.andL a b)
  ro : RowK .i64 w4 vo (Q.orL a b)
theorem Rest.on {w w4 w5 : World} {va vb vn vo : Value} {a b : List Int} (h : Rest w w4 va vb vn vo a b) (hb : Below w4.heap.size w4 w5) : Rest w w5 va vb vn vo a b :=
  ⟨Below.next h.bel hb, h.ra.below hb (Nat.le_refl _), h.rb.below hb (Nat.le_refl _), h.rn.below hb (Nat.le_refl _), h.ro.below hb (Nat.le_refl _)⟩
set_option maxRecDepth 100000 in
set_option maxHeartbeats 4000000 in
theorem sets_any (va vb : Value) (a b : List Int) (n : Int) (w : World) (ha : RowK .i64 w va a) (hb : RowK .i64 w vb b) (la : a.length ≤ 1048576) (lb : b.length ≤ 1048576) :
    Calls Try.prog 4 #[va, vb, .int .i64 n] w fun e w' => e = .returned (.bool true) ∧ Below w.heap.size w w' := by
  have HC := hide (cloneI_any va a w ha (by omega))
  have HA := hide (fun w' (h : Below w.heap.size w w') => ha.below h (Nat.le_refl _))
  have HB := hide (fun w' (h : Below w.heap.size w w') => hb.below h (Nat.le_refl _))
  have HAnd := hide (fun w' (hx : RowK .i64 w' va a) (hy : RowK .i64 w' vb b) => and_any w' va vb a b hx hy (by omega) (by omega) (by have := Q.andL_len a b; omega))
  have HOr := hide (fun w' (hx : RowK .i64 w' va a) (hy : RowK .i64 w' vb b) => or_any w' va vb a b hx hy (by omega))
  have HEq := hide (fun w' p q (x : List Int) (hx : RowK .i64 w' p x) (hy : RowK .i64 w' q x) => by have := equalI_any p q x x w' hx hy; rw [decide_eq_true rfl] at this; exact this)
  have HSrt := hide (fun w' base v (l : List Int) (h : OwnI w' base v l) (hl : l.length ≤ 10000000) => sort_own w' base v l h (by omega))
  have HIn := hide (fun w' v (l : List Int) x (h : RowK .i64 w' v l) => containsI_any v l x w' h)
  have hab : (a.length + b.length) * 8 ≤ 140737488355328 := by omega
  have HAB : Hid ((a ++ b).length ≤ 2097152) := by show _ ≤ _; rw [List.length_append]; omega
  have HO := hide (Q.srt_or a b)
  have HN := hide (Q.srt_and a b)
  have LA := hide la
  obtain ⟨r, hr⟩ : ∃ r, a ++ b = r := ⟨_, rfl⟩
  rw [hr] at HO HN HAB
  have HRR := hide hr
  clear hr
  obtain ⟨a0, ca, rfl, _⟩ := ha
  obtain ⟨b0, cb, rfl, _⟩ := hb
  clear la lb
  go_enter Try.func4, Try.ntmps4
  go_wp2_with fail
  refine HC.out.mono ?_
  rintro e w1 ⟨v1, rfl, own1, b1⟩
  have HS1 := hide b1.size
  have hrb := HB.out _ b1
  obtain ⟨a1, c1, hv⟩ := own1.shape
  subst hv
  go_wp2_with (at_builtin; go_must (refine wp_appRowI rfl _ _ rfl w.heap.size w.heap.size w _ _ _ a b own1 hrb b1 (Nat.le_refl _) rfl rfl hab HS1.out ?_); intro v2 w2 own2 b2 sz2 hg2; rw [HRR.out] at own2; obtain ⟨a2, c2, hv⟩ := own2.shape; subst hv)
  have HP := hide (fun k hk => row_place own2.row k hk)
  have B2 := hide b2
  clear own1 b1 HS1 hrb sz2 hg2 own2 b2 hab HC
  have hr0 := HAB.out
  go_loopw [20, 8, 7] (fun i vo va wr => DedAt w2 r a b i vo va wr) (fun i _ _ _ => r.length - (intOf i).toNat)
  case atStart => exact ⟨0, by omega, rfl, OwnK.nil _ _ _ _, OwnK.nil _ _ _ _, (fun k hk => by cases hk), Below.refl _ _⟩
  case round =>
    obtain ⟨k, hk, rfl, owno, owna, hap, hb⟩ := hrel
    by_cases hlt : k < r.length
    · obtain ⟨g, off, rfl, hbs, hc0⟩ := HP.out k hlt
      have hc := (hb.cell (p := ⟨g, off + k, none⟩) hbs).trans hc0
      have HT : Hid (Q.uq (r.take (k + 1)) = if (Q.uq (r.take k)).contains (r.getD k 0) then Q.uq (r.take k) else Q.uq (r.take k) ++ [r.getD k 0]) := by
        show _ = _; rw [Q.take_snoc r k hlt, Q.uq_snoc]
      have HL := hide (uq_le r k)
      have HL2 := hide (List.length_filter_le (Q.inB a b) (Q.uq (r.take k)))
      have hsz := hide hb.size
      have j0 : (0 : Int) ≤ (k : Int) := by omega
      have j1 : (k : Int) < (r.length : Int) := by omega
      clear hc0
      generalize r.getD k 0 = x at hc HT
      generalize Q.uq (r.take k) = u at owno owna HT HL HL2
      have HI0 := hide (HIn.out wr _ u x owno.row)
      have hro := hide (HA.out wr (Below.next B2.out hb))
      have hrb := hide (HB.out wr (Below.next B2.out hb))
      cases hu : u.contains x
      · rw [hu] at HI0
        rw [hu, if_neg (by simp)] at HT
        have HF : Hid ((u ++ [x]).filter (Q.inB a b) = u.filter (Q.inB a b) ++ if Q.inB a b x then [x] else []) := by
          show _ = _
          rw [List.filter_append]; congr 1
          cases h : Q.inB a b x
          · rw [List.filter_cons_of_neg (by rw [h]; simp)]; rfl
          · rw [List.filter_cons_of_pos (by rw [h])]; rfl
        have hl8 : (u.length + 1) * 8 ≤ 140737488355328 := by have := HL.out; omega
        have hl8b : ((u.filter (Q.inB a b)).length + 1) * 8 ≤ 140737488355328 := by have := HL.out; have := HL2.out; omega
        clear hu
        obtain ⟨ao, co, hvo⟩ := owno.shape
        obtain ⟨an, cn, hvn⟩ := owna.shape
        subst hvo hvn
        go_wp2_with fail
        refine HI0.out.mono ?_
        rintro e w' ⟨rfl, rfl⟩
        go_wp2_with (at_builtin; go_must (refine wp_app1At rfl _ _ _ 3 .i64 8 rfl Try.underlying37 infoI ⟨by omega, by omega⟩ w2.heap.size w2.heap.size w2 _ _ u x owno hb (Nat.le_refl _) rfl rfl hl8 hsz.out ?_); intro v6 w6 own6 bl6 sz6 hg6 hat6)
        generalize u ++ [x] = y at own6 HT HF
        have owna6 := OwnK.grown owna hg6 (fun k h1 h2 => hap k h2 h1)
        have hap6 := apart_new (w6 := w6) hap owna hat6
        have hsz6 := hide bl6.size
        have hI1 := hide (HIn.out w6 _ a x (HA.out _ (Below.next B2.out bl6)))
        have hI2 := hide (HIn.out w6 _ b x (HB.out _ (Below.next B2.out bl6)))
        obtain ⟨a6, c6, hv6⟩ := own6.shape
        subst hv6
        clear HI0 owno owna hap hb hg6 hat6 hc hro hrb
        cases ha1 : a.contains x
        · rw [ha1] at hI1
          rw [show Q.inB a b x = false by simp only [Q.inB, ha1, Bool.false_and], if_neg (by simp), List.append_nil] at HF
          clear ha1
          go_wp2_with fail
          refine hI1.out.mono ?_
          rintro e w' ⟨rfl, rfl⟩
          go_wp2
          go_roundw
          case rel => exact ⟨k + 1, by omega, by go_num, by rw [HT.out]; exact own6, by rw [HT.out, HF.out]; exact owna6, hap6, bl6⟩
          case measure => simp [intOf]; omega
        · rw [ha1] at hI1
          cases hb1 : b.contains x
          · rw [hb1] at hI2
            rw [show Q.inB a b x = false by simp only [Q.inB, hb1, Bool.and_false], if_neg (by simp), List.append_nil] at HF
            clear ha1 hb1
            go_wp2_with fail
            refine hI1.out.mono ?_
            rintro e w' ⟨rfl, rfl⟩
            go_wp2_with fail
            refine hI2.out.mono ?_
            rintro e w' ⟨rfl, rfl⟩
            go_wp2
            go_roundw
            case rel => exact ⟨k + 1, by omega, by go_num, by rw [HT.out]; exact own6, by rw [HT.out, HF.out]; exact owna6, hap6, bl6⟩
            case measure => simp [intOf]; omega
          · rw [hb1] at hI2
            rw [show Q.inB a b x = true by simp only [Q.inB, ha1, hb1, Bool.and_true], if_pos rfl] at HF
            clear ha1 hb1
            go_wp2_with fail
            refine hI1.out.mono ?_
            rintro e w' ⟨rfl, rfl⟩
            go_wp2_with fail
            refine hI2.out.mono ?_
            rintro e w' ⟨rfl, rfl⟩
            go_wp2_with (at_builtin; go_must (refine wp_app1At rfl _ _ _ 3 .i64 8 rfl Try.underlying37 infoI ⟨by omega, by omega⟩ w2.heap.size w2.heap.size w2 _ _ (u.filter (Q.inB a b)) x owna6 bl6 (Nat.le_refl _) rfl rfl hl8b hsz6.out ?_); intro v7 w7 own7 bl7 sz7 hg7 hat7)
            have own67 := OwnK.grown own6 hg7 (fun k h1 h2 => hap6 k h1 h2)
            have hap7 := apart_new2 (w6 := w7) hap6 own6 hat7
            obtain ⟨a7, c7, hv7⟩ := own7.shape
            subst hv7
            go_roundw
            case rel => exact ⟨k + 1, by omega, by go_num, by rw [HT.out]; exact own67, by rw [HT.out, HF.out]; exact own7, hap7, bl7⟩
            case measure => simp [intOf]; omega
      · rw [hu] at HI0
        rw [hu, if_pos rfl] at HT
        clear hu
        obtain ⟨ao, co, hvo⟩ := owno.shape
        obtain ⟨an, cn, hvn⟩ := owna.shape
        subst hvo hvn
        go_wp2_with fail
        refine HI0.out.mono ?_
        rintro e w' ⟨rfl, rfl⟩
        go_wp2
        go_roundw
        case rel => exact ⟨k + 1, by omega, by go_num, by rw [HT.out]; exact owno, by rw [HT.out]; exact owna, hap, hb⟩
        case measure => simp [intOf]; omega
    · obtain rfl : k = r.length := by omega
      rw [List.take_length] at owno owna
      have hu := (Q.uq_both r).2.2
      have hu2 := List.length_filter_le (Q.inB a b) (Q.uq r)
      have H1 := hide (HSrt.out _ _ _ _ owna (by omega))
      have H2 := hide (fun w' (h : OwnI w' w2.heap.size u8 (Q.uq r)) => HSrt.out w' _ _ _ h (by omega))
      rw [HN.out] at H1
      rw [HO.out] at H2
      have hd : decide ((r.length : Int) < (r.length : Int)) = false := by simp
      obtain ⟨ao, co, hvo⟩ := owno.shape
      obtain ⟨an, cn, hvn⟩ := owna.shape
      clear hu hu2 HSrt HP
      subst hvo hvn
      go_wp2_with fail
      refine H1.out.mono ?_
      rintro e w3 ⟨rfl, own3, hg3⟩
      have owno3 := OwnK.grown owno hg3 (fun k h1 h2 => hap k h1 h2)
      have hb3 := hb.grown hg3 hb.size (fun k hk => (owna.lt k hk).1)
      go_wp2_with fail
      refine (H2.out _ owno3).mono ?_
      rintro e w4 ⟨rfl, own4, hg4⟩
      have own34 := OwnK.grown own3 hg4 (fun k h1 h2 => hap k h2 h1)
      have hb4 := hb3.grown hg4 hb3.size (fun k hk => (owno3.lt k hk).1)
      have bel := Below.next B2.out hb4
      have HR : Hid (Rest w w4 _ _ _ _ a b) := ⟨bel, HA.out _ bel, HB.out _ bel, own34.row, own4.row⟩
      clear own3 own4 hg3 hg4 own34 hb4 bel HA HB owno owna hb hb3 owno3 H1 H2 B2 hap hd
      by_cases hn : n < 0 ∨ 1000 < n
      · have HNe := hide (not_err n _ a w4 HR.out.ra hn)
        have hcond : decide (n < 0) = true ∨ (decide (n < 0) = false ∧ decide (n > 1000) = true) := by
          by_cases h : n < 0
          · exact .inl (by simpa using h)
          · exact .inr ⟨by simpa using h, by simp; omega⟩
        clear hn
        go_wp2_with fail
        refine HNe.out.mono ?_
        rintro e w' ⟨rfl, rfl⟩
        go_wp2_with fail
        refine (HAnd.out _ HR.out.ra HR.out.rb).mono ?_
        rintro e w5 ⟨v5, rfl, own5, b5⟩
        replace HR := hide (HR.out.on b5)
        have HE := hide (HEq.out _ _ _ _ own5.row HR.out.rn)
        obtain ⟨a5, c5, hv5⟩ := own5.shape
        subst hv5
        clear own5 b5
        go_wp2_with fail
        refine HE.out.mono ?_
        rintro e w6 ⟨rfl, b6⟩
        replace HR := hide (HR.out.on b6)
        clear HE b6
        go_wp2_with fail
        refine (HOr.out _ HR.out.ra HR.out.rb).mono ?_
        rintro e w7 ⟨v7, rfl, own7, b7⟩
        replace HR := hide (HR.out.on b7)
        have HE := hide (HEq.out _ _ _ _ own7.row HR.out.ro)
        obtain ⟨a7, c7, hv7⟩ := own7.shape
        subst hv7
        clear own7 b7
        go_wp2_with fail
        refine HE.out.mono ?_
        rintro e w8 ⟨rfl, b8⟩
        replace HR := hide (HR.out.on b8)
        clear HE b8
        rcases hcond with t1 | ⟨t1, t2⟩
        · go_wp2
          go_ret
          exact ⟨rfl, HR.out.bel⟩
        · go_wp2
          go_ret
          exact ⟨rfl, HR.out.bel⟩
      · obtain ⟨m, rfl⟩ := Int.eq_ofNat_of_zero_le (show 0 ≤ n by omega)
        have hm : m ≤ 1000 := by omega
        have HNo := hide (not_ok m _ a w4 HR.out.ra hm)
        have t1 : decide ((m : Int) < 0) = false := by simp
        have t2 : decide ((m : Int) > 1000) = false := by simp; omega
        have m0 : (m : Int) ≤ 1000 := by omega
        clear hn
        go_wp2_with fail
        refine HNo.out.mono ?_
        rintro e w44 ⟨vl, rfl, ownl, b44⟩
        replace HR := hide (HR.out.on b44)
        have HRL := hide ownl.row
        obtain ⟨al, cl, hvl⟩ := ownl.shape
        subst hvl
        clear ownl b44 HNo
        go_wp2_with fail
        refine (HAnd.out _ HR.out.ra HR.out.rb).mono ?_
        rintro e w5 ⟨v5, rfl, own5, b5⟩
        replace HR := hide (HR.out.on b5)
        replace HRL := hide (HRL.out.below b5 (Nat.le_refl _))
        have HE := hide (HEq.out _ _ _ _ own5.row HR.out.rn)
        obtain ⟨a5, c5, hv5⟩ := own5.shape
        subst hv5
        clear own5 b5
        go_wp2_with fail
        refine HE.out.mono ?_
        rintro e w6 ⟨rfl, b6⟩
        replace HR := hide (HR.out.on b6)
        replace HRL := hide (HRL.out.below b6 (Nat.le_refl _))
        clear HE b6
        go_wp2_with fail
        refine (HOr.out _ HR.out.ra HR.out.rb).mono ?_
        rintro e w7 ⟨v7, rfl, own7, b7⟩
        replace HR := hide (HR.out.on b7)
        replace HRL := hide (HRL.out.below b7 (Nat.le_refl _))
        have HE := hide (HEq.out _ _ _ _ own7.row HR.out.ro)
        obtain ⟨a7, c7, hv7⟩ := own7.shape
        subst hv7
        clear own7 b7
        go_wp2_with fail
        refine HE.out.mono ?_
        rintro e w8 ⟨rfl, b8⟩
        replace HR := hide (HR.out.on b8)
        replace HRL := hide (HRL.out.below b8 (Nat.le_refl _))
        clear HE b8 HAnd HOr
        go_wp2
        go_loopw [83, 9] (fun i v w3 => LeftAt w8 m a i v w3) (fun i _ _ => m - (intOf i).toNat)
        case atStart => exact ⟨0, by omega, rfl, OwnK.nil _ _ _ _, Below.refl _ _⟩
        case round =>
          obtain ⟨k, hk, rfl, own, hb⟩ := hrel
          by_cases hlt : k < m
          · have j0 : (0 : Int) ≤ (k : Int) := by omega
            have j1 : (k : Int) < (m : Int) := by omega
            have HNs := hide (Q.notL_succ k a)
            have HL := hide (Q.notL_len k a)
            have HS2 := hide hb.size
            have HI0 := hide (HIn.out wr _ a (k : Int) (HR.out.ra.below hb (Nat.le_refl _)))
            obtain ⟨a9, c9, hv9⟩ := own.shape
            subst hv9
            cases hgone : a.contains (k : Int)
            · rw [hgone] at HI0 HNs
              have hl8 : ((Q.notL k a).length + 1) * 8 ≤ 140737488355328 := by have := HL.out; omega
              clear hgone
              go_wp2_with fail
              refine HI0.out.mono ?_
              rintro e w' ⟨rfl, rfl⟩
              go_wp2_with (at_builtin; go_must (refine wp_app1K rfl _ _ _ 3 .i64 8 rfl Try.underlying37 infoI ⟨by omega, by omega⟩ w8.heap.size w8.heap.size w8 _ _ (Q.notL k a) (k : Int) own hb (Nat.le_refl _) rfl rfl hl8 HS2.out ?_); intro v' w6 own6 bl6 sz6 hg6)
              obtain ⟨a6, c6, hv6⟩ := own6.shape
              subst hv6
              go_roundw
              case rel => exact ⟨k + 1, by omega, by go_num, by rw [HNs.out]; exact own6, bl6⟩
              case measure => simp [intOf]; omega
            · rw [hgone] at HI0 HNs
              clear hgone
              go_wp2_with fail
              refine HI0.out.mono ?_
              rintro e w' ⟨rfl, rfl⟩
              go_wp2
              go_roundw
              case rel => exact ⟨k + 1, by omega, by go_num, by rw [HNs.out]; simpa using own, hb⟩
              case measure => simp [intOf]; omega
          · obtain rfl : k = m := by omega
            have hd : decide ((k : Int) < (k : Int)) = false := by simp
            have HE := hide (HEq.out _ _ _ _ (HRL.out.below hb (Nat.le_refl _)) own.row)
            have hbel := hide (Below.next HR.out.bel hb)
            obtain ⟨a6, c6, hv6⟩ := own.shape
            subst hv6
            go_wp2_with fail
            refine HE.out.mono ?_
            rintro e w9 ⟨rfl, b9⟩
            have hbel2 := hide (Below.next hbel.out b9)
            clear b9 HE hbel
            go_wp2
            go_ret
            exact ⟨rfl, hbel2.out⟩
theorem walk_IndexSets (va : Value) (a : List Int) (vb : Value) (b : List Int) (n : Int) (w : World)
    (ha : RowK .i64 w va a) (wa : ∀ x ∈ a, -9223372036854775808 ≤ x ∧ x ≤ 9223372036854775807) (la : a.length * 8 ≤ 140737488351232)
    (hb : RowK .i64 w vb b) (wb : ∀ x ∈ b, -9223372036854775808 ≤ x ∧ x ≤ 9223372036854775807) (lb : b.length * 8 ≤ 140737488351232)
    (h0 : -9223372036854775808 ≤ n) (h1 : n ≤ 9223372036854775807) (ka : a.length ≤ 1048576) (kb : b.length ≤ 1048576) :
    Calls Try.prog 4 #[va, vb, .int .i64 n] w fun e w' => e = .returned (.bool true) ∧ Below w.heap.size w w' :=
  sets_any va vb a b n w ha hb ka kb
set_option maxRecDepth 100000 in
theorem lifted_IndexSets (os : Os) (started : os.Started) (H : Type) (enc : TypeId × Value → H) (F : Stop.Interp) :
    ReturnsInHanded {} Try.checked os 4 .any ((Rows.OpenSpec.upto Rows.indexSetsSpec).pre6 enc Try.prog Try.f4 Rows.indexSetsUptoRow.domain false) (((Rows.OpenSpec.upto Rows.indexSetsSpec).at F).post enc Try.prog Try.f4 false true false false) := by
  refine returnsInHanded_of_cond_sized (C := Try.checked) (s := Rows.OpenSpec.upto Rows.indexSetsSpec) (k := Rows.uptoSmall) rfl own started (by kernel_rfl) Try.func4
    (OpenSpec.witness (enc := enc) (C := Try.checked) (s := Rows.OpenSpec.upto Rows.indexSetsSpec) (k := Rows.uptoSmall) rfl false ⟨#[], #[.slice none 0 0, .slice none 0 0, .int .i64 0], []⟩ 8 (by kernel_rfl) (by kernel_rfl) (by kernel_rfl)
      (x := ([.nil, .nil, .lit (.int .i64 0)], [], [])) (by kernel_rfl) rfl (by kernel_rfl)) ?_
  intro W base args ds gs before hval0 hW hcnd hk0 hsz0  _
  have hsz : (DataW.weightsEach Try.prog (Try.f4.params.toList ++ Rows.indexSetsSpec.plain.varTypes Try.prog) (ds ++ gs)).all (· ≤ reachBytes) = true := hsz0
  have hval : ∀ (j : Nat) t v, Try.f4.params[j]? = some t → args[j]? = some v → Value.okWide Try.prog W .any base t v := hval0
  have hW' := hW
  obtain ⟨p, q, hA0, hV, rfl, hfz, hnd⟩ := hW
  have hA : DataW.TrodAll enc Try.prog W 0 (fun _ => true) true Try.f4.params.toList args.toList ds p := hA0
  rw [Try.params4] at hA hval hsz
  obtain ⟨v0, vs0, d0, ds0, p0, q0, hargs, rfl, rfl, h0, r0⟩ := trodAll_cons hA
  obtain ⟨v1, vs1, d1, ds1, p1, q1, rfl, rfl, rfl, h1, r1⟩ := trodAll_cons r0
  obtain ⟨v2, vs2, d2, ds2, p2, q2, rfl, rfl, rfl, h2, r2⟩ := trodAll_cons r1
  obtain ⟨rfl, rfl, rfl⟩ := trodAll_nil r2
  obtain rfl : args = #[v0, v1, v2] := by cases args; simp_all
  obtain ⟨rfl, rfl⟩ := trodVars_none hV
  have k0 := h0
  have lt0 : ∀ x ∈ p0, x.block < W.heap.size := by obtain ⟨m, hm⟩ := k0; exact DataW.trod_lt m _ _ _ hm
  obtain ⟨s0, len0, cap0, rfl⟩ := okWide_slice Try.underlying37 (hval 0 37 v0 rfl rfl)
  obtain ⟨l0, row0, wf0, sh0⟩ := open_row Try.underlying37 Try.underlying3 cells3 h0
  have rc0 := row_reach hsz (j := 0) (t := 37) rfl rfl Try.underlying37 sh0
  rw [bytes3] at rc0
  have k1 := h1
  have lt1 : ∀ x ∈ p1, x.block < W.heap.size := by obtain ⟨m, hm⟩ := k1; exact DataW.trod_lt m _ _ _ hm
  obtain ⟨s1, len1, cap1, rfl⟩ := okWide_slice Try.underlying37 (hval 1 37 v1 rfl rfl)
  obtain ⟨l1, row1, wf1, sh1⟩ := open_row Try.underlying37 Try.underlying3 cells3 h1
  have rc1 := row_reach hsz (j := 1) (t := 37) rfl rfl Try.underlying37 sh1
  rw [bytes3] at rc1
  have k2 := h2
  have lt2 : ∀ x ∈ p2, x.block < W.heap.size := by obtain ⟨m, hm⟩ := k2; exact DataW.trod_lt m _ _ _ hm
  obtain ⟨a2, rfl, rfl, rfl, w2⟩ := open_int Try.underlying3 (hval 2 3 v2 rfl rfl) h2
  have b2 := bounds_i64 w2
  clear hA0 hval0
  have bk0 := bulk_row (l := l0) hk0 (by simp) sh0
  have bk1 := bulk_row (l := l1) hk0 (by simp) sh1
  refine (walk_IndexSets (.slice s0 len0 cap0) l0 (.slice s1 len1 cap1) l1 a2 W row0 (fun x hx => bounds_i64 (wf0 x hx)) rc0 row1 (fun x hx => bounds_i64 (wf1 x hx)) rc1 b2.1 b2.2 bk0 bk1).mono fun e W' ⟨he, bel⟩ => ?_
  subst he
  exact ⟨_, rfl, _, _, _, [], _, [], hW', trodAll_mk1 (shut_bool Try.underlying4 _), (trodAll_cons_mk (Below.trod laidOut (by kernel_rfl) (of_decide_eq_true (by kernel_rfl)) k0 bel lt0) (trodAll_cons_mk (Below.trod laidOut (by kernel_rfl) (of_decide_eq_true (by kernel_rfl)) k1 bel lt1) (trodAll_cons_mk (Below.trod laidOut (by kernel_rfl) (of_decide_eq_true (by kernel_rfl)) k2 bel lt2) trodAll_mk0))), rfl, bel.frame _, fun h => by cases h⟩

theorem proved_IndexSets : Rows.IndexSetsUptoSaid :=
  OpenClaim.holds_of_cond 4 Try.f4 rfl rfl rfl rfl rfl rfl rfl ⟨rfl, rfl, rfl, rfl, rfl⟩ rfl rfl rfl rfl rfl (by kernel_rfl) Try.func4 (by kernel_rfl)
    (of_decide_eq_true (by kernel_rfl)) (by unfold Func.isWrapper; first | (rw [if_pos (by decide +kernel)]; kernel_rfl) | (rw [if_neg (by decide +kernel)]; exact ⟨rfl, rfl⟩))
    (fun os started H enc _ F => lifted_IndexSets os started H enc F)
#print axioms proved_IndexSets
end Go.Proofs.Ytlghnnmgbdjgoaa
