/- New, Find and Values answer what the document says: for whatever labels, matches and name the statement's function answers true. No condition. -/
import Derived.Test.YtlghnnmgbdjgoaaKitLL
import Derived.Test.YtlghnnmgbdjgoaaIdxT
import Derived.Test.YtlghnnmgbdjgoaaIdxS
import Derived.Test.YtlghnnmgbdjgoaaRefFa
import Derived.Test.YtlghnnmgbdjgoaaSetL
import Derived.HandedShaped
namespace Go.Proofs.Ytlghnnmgbdjgoaa
open Go.RowKit Go.ChangeShapes Go.WideShapes Go.ChangeAt Go.Joins Go.Sort
set_option linter.unusedVariables false
theorem eqP_some (b : Nat) (w : World) : (binOp BinOp.eql 24 (.pointer (some ⟨b, 0, none⟩)) (.pointer none)).run Try.prog w = .ok (.bool false) w := by kernel_rfl
theorem eqP_none (w : World) : (binOp BinOp.eql 24 (.pointer none) (.pointer none)).run Try.prog w = .ok (.bool true) w := by kernel_rfl
theorem P.newF_snoc (A : List (List P.Lb)) (l : List P.Lb) : P.newF (A ++ [l]) = if P.newF A = 0 then P.chk l else P.newF A := by
  induction A with
  | nil =>
    show (if P.chk l = 0 then (0 : Int) else P.chk l) = if (0 : Int) = 0 then P.chk l else 0
    rw [if_pos rfl]
    split
    · rename_i h; rw [h]
    · rfl
  | cons y A ih =>
    show (if P.chk y = 0 then P.newF (A ++ [l]) else P.chk y) = if (if P.chk y = 0 then P.newF A else P.chk y) = 0 then P.chk l else (if P.chk y = 0 then P.newF A else P.chk y)
    by_cases h : P.chk y = 0
    · rw [if_pos h, if_pos h, ih]
    · rw [if_neg h, if_neg h, if_neg h]
/-- What fits, of the first k. -/
def P.fit_k (L : List (List P.Lb)) (m : List P.Mt) (k : Nat) : List Int := (Q.upTo k).filter fun i => m.all (P.fit1 (L.getD i.toNat []))
theorem P.fit_k_succ {L : List (List P.Lb)} {m : List P.Mt} {k : Nat} {l : List P.Lb} (h : L.getD k [] = l) : P.fit_k L m (k + 1) = P.fit_k L m k ++ if m.all (P.fit1 l) = true then [(k : Int)] else [] := by
  unfold P.fit_k
  rw [Q.upTo_succ, List.filter_append]
  congr 1
  cases hh : m.all (P.fit1 l) with
  | true => rw [List.filter_cons_of_pos (by rw [Int.toNat_natCast, h]; exact hh)]; rfl
  | false => rw [List.filter_cons_of_neg (by rw [Int.toNat_natCast, h, hh]; decide)]; rfl
theorem P.fit_k_len (L : List (List P.Lb)) (m : List P.Mt) (k : Nat) : (P.fit_k L m k).length ≤ k := by
  have := List.length_filter_le (fun i : Int => m.all (P.fit1 (L.getD i.toNat []))) (Q.upTo k)
  rw [Q.upTo_len] at this
  exact this
theorem getD_of {L : List (List P.Lb)} {k : Nat} {l : List P.Lb} (hx : L[k]? = some l) : L.getD k [] = l := by simp [List.getD_eq_getElem?_getD, hx]
set_option maxRecDepth 100000 in
set_option maxHeartbeats 3000000 in
theorem tells_ok (a0 : Option Addr) (c0 : Nat) (L : List (List P.Lb)) (a1 : Option Addr) (c1 : Nat) (m : List P.Mt) (s : ByteArray) (w : World) (hlc0 : L.length ≤ c0) (hm0 : c0 ≤ 9223372036854775807) (hlc1 : m.length ≤ c1) (hm1 : c1 ≤ 9223372036854775807)
    (HCASE : Hid (L = [] ∨ ∃ b off, a0 = some ⟨b, off, none⟩ ∧ b < w.heap.size ∧ ∀ j l, L[j]? = some l → ∃ vj, w.cell? ⟨b, off + j, none⟩ = some vj ∧ RowL w vj l))
    (HN : Hid (∀ (W : World), Below w.heap.size w W → Calls Try.prog 9 #[.slice a0 L.length c0] W (NewPost W L)))
    (HF : Hid (∀ (W : World), Below w.heap.size w W → ∀ (bx : Nat), Ix W bx L → Calls Try.prog 15 #[.pointer (some ⟨bx, 0, none⟩), .slice a1 m.length c1] W (FdPost W L m)))
    (HM : Hid (∀ (W : World), Below w.heap.size w W → Calls Try.prog 16 #[.slice a1 m.length c1] W fun e w' => e = .returned (.int .i64 (P.chkM m)) ∧ Below W.heap.size W w'))
    (HLF : Hid (∀ (W : World), Below w.heap.size w W → ∀ vj l, RowL w vj l → l ∈ L → Calls Try.prog 10 #[vj] W fun e w' => e = .returned (.int .i64 (P.chk l)) ∧ Below W.heap.size W w'))
    (HFA : Hid (∀ (W : World), Below w.heap.size w W → ∀ vj l, RowL w vj l → P.chk l = 0 → P.chkM m = 0 → Calls Try.prog 17 #[vj, .slice a1 m.length c1] W fun e w' => e = .returned (.bool (m.all (P.fit1 l))) ∧ Below W.heap.size W w'))
    (hs : s.size ≤ 140737488351232) (hlen : L.length ≤ 30) :
    Calls Try.prog 3 #[.slice a0 L.length c0, .slice a1 m.length c1, .string s] w fun e w' => e = .returned (.bool true) ∧ Below w.heap.size w w' := by
  have HEs := hide eqP_some
  have HEn := hide eqP_none
  have hd1 : decide (30 < (L.length : Int)) = false := by simp; omega
  have hd2 : decide (200 < (L.length : Int)) = false := by simp; omega
  have HNE : Hid (P.newE L = P.newF L) := by show _ = _; unfold P.newE; rw [if_neg (by omega)]
  go_enter Try.func3, Try.ntmps3
  go_wp2_with fail
  refine (HN.out _ (Below.refl _ _)).mono ?_
  rintro e w1 ⟨hne, hok, hB1⟩
  by_cases hz : P.newF L = 0
  · obtain ⟨bx, rfl, hix⟩ := hok (HNE.out.trans hz)
    have HX := hide hix
    have HCK : Hid (∀ (k : Nat) l, L[k]? = some l → P.chk l = 0) := fun k l hx => by
      have h1 := HX.out.chk k (List.getElem?_eq_some_iff.1 hx).1
      rw [getD_of hx] at h1
      exact h1
    clear hne hok hix hz HNE HN HEn
    go_wp2
    go_loopw [41, 9] (fun i bd wr => ∃ (k : Nat), k ≤ L.length ∧ i = .int .i64 k ∧ bd = .int .i64 0 ∧ Below w1.heap.size w1 wr) (fun i _ _ => L.length - (intOf i).toNat)
    case atStart => exact ⟨0, by omega, rfl, rfl, Below.refl _ _⟩
    case round =>
      obtain ⟨k, hk, rfl, rfl, hBr⟩ := hrel
      have hB := Below.next hB1 hBr
      by_cases hlt : k < L.length
      · rcases HCASE.out with h | ⟨b, off, rfl, hbs, hcell⟩
        · rw [h] at hlt; simp at hlt
        have j0 : (0 : Int) ≤ (k : Int) := by omega
        have j1 : (k : Int) < (L.length : Int) := by omega
        obtain ⟨l, hx⟩ : ∃ x, L[k]? = some x := ⟨_, List.getElem?_eq_getElem hlt⟩
        obtain ⟨vj, g0, hrow⟩ := hcell k l hx
        have q0 := (hB.cell (p := ⟨b, off + k, none⟩) hbs).trans g0
        have HG := hide (HLF.out wr hB vj l hrow (List.mem_of_getElem? hx))
        rw [HCK.out k l hx] at HG
        obtain ⟨al, cl, rfl, _⟩ := hrow
        clear hcell g0 hx HCK HX HFA HLF HM HF HEs
        go_wp2_with (go_at_call 10; refine HG.out.mono ?_; rintro e w4 ⟨rfl, h4⟩)
        go_roundw
        case rel => exact ⟨k + 1, by omega, by go_num, rfl, Below.next hBr h4⟩
        case measure => simp [intOf]; omega
      · obtain rfl : k = L.length := by omega
        have hdd : decide ((L.length : Int) < (L.length : Int)) = false := by simp
        obtain ⟨wl, rfl⟩ : ∃ wl, wl = wr := ⟨_, rfl⟩
        have hP := HEs.out bx wl
        have HX2 := hide (HX.out.below hBr)
        have HBl := hide hB
        have HLV := hide (fun k (hk : k ≤ L.length) => valsTo_facts s L k (fun i hi => P.chk_len (HX2.out.chk i (by omega))))
        clear hBr hB HX HLF hB1
        go_wp2
        clear hP HEs
        go_loopw [67, 12] (fun i vv wq => ∃ (k : Nat), k ≤ L.length ∧ i = .int .i64 k ∧ OwnS wq wl.heap.size vv (valsTo s L k) ∧ Below wl.heap.size wl wq) (fun i _ _ => L.length - (intOf i).toNat)
        case atStart => exact ⟨0, by omega, rfl, World.ownsRow_nil _ _ _ _, Below.refl _ _⟩
        case round =>
          obtain ⟨k, hk, rfl, hov, hBv⟩ := hrel
          have HOV := hide hov
          obtain ⟨av, cv, rfl, hv1, hv2, _⟩ := hov.place
          unfold maxLen at hv2
          have hB := Below.next HBl.out hBv
          clear hov
          by_cases hlt2 : k < L.length
          · rcases HCASE.out with h | ⟨b, off, rfl, hbs, hcell⟩
            · rw [h] at hlt2; simp at hlt2
            have j0 : (0 : Int) ≤ (k : Int) := by omega
            have j1 : (k : Int) < (L.length : Int) := by omega
            obtain ⟨l, hx⟩ : ∃ x, L[k]? = some x := ⟨_, List.getElem?_eq_getElem hlt2⟩
            obtain ⟨vj, g0, hrow⟩ := hcell k l hx
            have q0 := (hB.cell (p := ⟨b, off + k, none⟩) hbs).trans g0
            have HLL := hide (P.chk_len (HCK.out k l hx))
            have HVK := hide (HLV.out k (by omega))
            have HVE : Hid (valsTo s L (k + 1) = valsIn s (valsTo s L k) l) := by show _ = _; rw [valsTo, getD_of hx]
            obtain ⟨al, cl, rfl, ⟨hl1, hl2, hl3⟩, hlc⟩ := hrow
            unfold maxLen at hl2
            have HLC := hide hlc
            have HB2 := hide hB
            clear hcell g0 hx hlc HCK hB
            generalize valsTo s L k = acc at HOV HVK HVE hv1 ⊢
            go_wp2
            clear q0
            go_loopw [73, 12] (fun i vv wq => ∃ (j : Nat), j ≤ l.length ∧ i = .int .i64 j ∧ OwnS wq wl.heap.size vv (valsIn s acc (l.take j)) ∧ Below wl.heap.size wl wq) (fun i _ _ => l.length - (intOf i).toNat)
            case atStart => exact ⟨0, by omega, rfl, HOV.out, hBv⟩
            case round =>
              obtain ⟨j, hj, rfl, hov, hBq⟩ := hrel
              have HOQ := hide hov
              obtain ⟨aq, cq, rfl, hq1, hq2, _⟩ := hov.place
              unfold maxLen at hq2
              clear hov hBv HOV
              by_cases hlt3 : j < l.length
              · rcases HLC.out with h | ⟨b2, off2, rfl, hbs2, hcell2⟩
                · rw [h] at hlt3; simp at hlt3
                have hBB := Below.next HBl.out hBq
                have j2 : (0 : Int) ≤ (j : Int) := by omega
                have j3 : (j : Int) < (l.length : Int) := by omega
                obtain ⟨x, hx⟩ : ∃ x, l[j]? = some x := ⟨_, List.getElem?_eq_getElem hlt3⟩
                obtain ⟨g0, g1⟩ := RowL.at hcell2 hx
                have q0 := (hBB.cell (p := ⟨b2, off2 + j * 2, none⟩) hbs2).trans g0
                have q1 := (hBB.cell (p := ⟨b2, off2 + j * 2 + 1, none⟩) hbs2).trans g1
                have HTK := hide (valsIn_take (s := s) (acc := acc) hx)
                have HLI := hide (valsIn_facts (s := s) (l := l.take j) HVK.out.1.1).2.2
                obtain ⟨xn, xv⟩ := x
                generalize valsIn s acc (l.take j) = ac at HOQ HTK HLI hq1 ⊢
                have hal : ac.length ≤ 1000 := by
                  have h1 := HLI.out
                  have h2 := HVK.out.2
                  have h3 := HLL.out
                  have h4 := List.length_take_le' j l
                  omega
                clear hcell2 g0 g1 hx HLI
                simp only at q0 q1
                have hba : Below wl.heap.size wl (wr.alloc (.cells #[.string xn, .string xv] 32)) := hBq.alloc hBq.size _
                have hoa : OwnS (wr.alloc (.cells #[.string xn, .string xv] 32)) wl.heap.size (.slice aq ac.length cq) ac := HOQ.out.below ((Below.refl _ wr).alloc (Nat.le_refl _) _) (Nat.le_refl _)
                have d1 : (wr.alloc (.cells #[.string xn, .string xv] 32)).cell? ⟨wr.heap.size, 1, none⟩ = some (.string xv) := by simp
                have HBA := hide hba
                have HOA := hide hoa
                cases hnm : (xn.toList == s.toList) with
                | true =>
                  have HNM : Hid (xn = s) := P.tl_inj (eq_of_beq hnm)
                  have HCN := hide (containsS_any _ ac _ xv _ hoa)
                  cases hct : ac.contains xv.data.toList with
                  | true =>
                    rw [hct] at HCN
                    have HPV : Hid (putV s ac (xn, xv) = ac) := by
                      show _ = _
                      unfold putV
                      rw [if_neg (fun h => h.2 (List.contains_iff_mem.1 hct))]
                    clear hba hoa hct
                    go_wp2_with (go_at_call 11; refine HCN.out.mono ?_; rintro e w5 ⟨rfl, rfl⟩)
                    go_roundw
                    case rel => exact ⟨j + 1, by omega, by go_num, by rw [HTK.out, HPV.out]; exact HOA.out, HBA.out⟩
                    case measure => simp [intOf]; omega
                  | false =>
                    rw [hct] at HCN
                    have HPV : Hid (putV s ac (xn, xv) = ac ++ [xv.data.toList]) := by
                      show _ = _
                      unfold putV
                      rw [if_pos ⟨HNM.out, fun h => by rw [List.contains_iff_mem.2 h] at hct; cases hct⟩]
                    clear hba hoa hct
                    go_wp2_with fail
                    refine HCN.out.mono ?_
                    rintro e w5 ⟨rfl, rfl⟩
                    generalize hbz : wr.heap.size = bz at d1 ⊢
                    clear hbz
                    generalize wr.alloc (.cells #[.string xn, .string xv] 32) = wb at HBA HOA d1 ⊢
                    go_wp2_with (at_builtin; refine wp_oneS rfl _ _ rfl wl.heap.size wl.heap.size wl wb _ ac xv HOA.out HBA.out (Nat.le_refl _) rfl rfl (by omega) HBA.out.size HBA.out.size ?_; intro v6 w6 ho6 hb6 hs6 hg6)
                    go_roundw
                    case rel => exact ⟨j + 1, by omega, by go_num, by rw [HTK.out, HPV.out]; exact ho6, hb6⟩
                    case measure => simp [intOf]; omega
                | false =>
                  have HPV : Hid (putV s ac (xn, xv) = ac) := by
                    show _ = _
                    unfold putV
                    rw [if_neg (fun h => by rw [show xn = s from h.1] at hnm; simp at hnm)]
                  clear hba hoa
                  go_wp2
                  go_roundw
                  case rel => exact ⟨j + 1, by omega, by go_num, by rw [HTK.out, HPV.out]; exact HOA.out, HBA.out⟩
                  case measure => simp [intOf]; omega
              · obtain rfl : j = l.length := by omega
                have hdd : decide ((l.length : Int) < (l.length : Int)) = false := by simp
                go_wp2
                go_roundw
                case rel => exact ⟨k + 1, by omega, by go_num, by rw [HVE.out]; have e := HOQ.out; rw [List.take_length] at e ⊢; exact e, hBq⟩
                case measure => simp [intOf]; omega
          · obtain rfl : k = L.length := by omega
            have hdd2 : decide ((L.length : Int) < (L.length : Int)) = false := by simp
            have HVF := hide (HLV.out L.length (Nat.le_refl _))
            have HSO := hide (sortS_own wr wl.heap.size _ (valsTo s L L.length) HOV.out (by have := HVF.out.2; omega))
            clear HLV
            generalize valsTo s L L.length = vt at HOV HVF HSO hv1 ⊢
            go_wp2_with fail
            refine HSO.out.mono ?_
            rintro e w5 ⟨rfl, ho5, hg5⟩
            have HB5 : Hid (Below wl.heap.size wl w5) := hBv.grown hg5 hBv.size (fun j hj => (World.ownsRow.lt HOV.out j hj).1)
            have HW5 := hide (Below.next HBl.out HB5.out)
            have HX5 := hide (HX2.out.below HB5.out)
            have HO5 := hide ho5
            have HVA := hide (values_any w5 bx L HX5.out s (by omega))
            clear ho5 hg5 HSO HOV hB hBv HX2
            go_wp2_with fail
            refine HVA.out.mono ?_
            rintro e w6 ⟨v6, ss6, rfl, hvs6, ho6, h6⟩
            have HSM : Hid (srtS ss6 = srtS vt) := hvs6.same HVF.out.1
            rw [show srtS ss6 = srtS vt from HSM.out] at ho6
            generalize srtS vt = tt at ho6 HO5 HSM
            have HEQ := hide (equalS_same _ _ tt _ _ w6 ho6 (HO5.out.below h6 (Nat.le_refl _)))
            have HW6 := hide (Below.next HW5.out h6)
            have HX6 := hide (HX5.out.below h6)
            obtain ⟨a6, c6, rfl, _⟩ := ho6.place
            clear hvs6 ho6 h6 HVA HSM HO5 HX5 HB5
            go_wp2_with fail
            refine HEQ.out.mono ?_
            rintro e w7 ⟨rfl, h7⟩
            have HW7 := hide (Below.next HW6.out h7)
            have HX7 := hide (HX6.out.below h7)
            clear HEQ h7 HX6
            go_wp2_with fail
            refine (HF.out _ HW7.out bx HX7.out).mono ?_
            rintro e w8 ⟨v8, rfl, ho8, h8⟩
            have HW8 := hide (Below.next HW7.out h8)
            have HO8 := hide ho8
            obtain ⟨a8, c8, rfl⟩ := OwnK.shape ho8
            clear ho8 h8 HX7 HF
            go_wp2_with fail
            refine (HM.out _ HW8.out).mono ?_
            rintro e w9 ⟨rfl, h9⟩
            have HW9 := hide (Below.next HW8.out h9)
            have HO9 := hide (OwnK.row (OwnK.below HO8.out h9 (Nat.le_refl _)))
            clear h9 HO8 HM
            by_cases hcm : P.chkM m = 0
            · have HCM := hide hcm
              have HFL : Hid (fndL L m = P.findL L m) := by show _ = _; unfold fndL; rw [if_pos hcm]
              rw [show fndL L m = P.findL L m from HFL.out] at HO9 ⊢
              rw [hcm]
              clear hcm
              go_wp2
              go_loopw [123, 20] (fun i vw wq => ∃ (k : Nat), k ≤ L.length ∧ i = .int .i64 k ∧ OwnI wq w9.heap.size vw (P.fit_k L m k) ∧ Below w9.heap.size w9 wq) (fun i _ _ => L.length - (intOf i).toNat)
              case atStart => exact ⟨0, by omega, rfl, OwnK.nil _ _ _ _, Below.refl _ _⟩
              case round =>
                obtain ⟨k, hk, rfl, how, hBw⟩ := hrel
                have HOW := hide how
                obtain ⟨aw, cw, rfl⟩ := OwnK.shape how
                have hB := Below.next HW9.out hBw
                clear how
                by_cases hlt4 : k < L.length
                · rcases HCASE.out with h | ⟨b, off, rfl, hbs, hcell⟩
                  · rw [h] at hlt4; simp at hlt4
                  have j0 : (0 : Int) ≤ (k : Int) := by omega
                  have j1 : (k : Int) < (L.length : Int) := by omega
                  obtain ⟨l, hx⟩ : ∃ x, L[k]? = some x := ⟨_, List.getElem?_eq_getElem hlt4⟩
                  obtain ⟨vj, g0, hrow⟩ := hcell k l hx
                  have q0 := (hB.cell (p := ⟨b, off + k, none⟩) hbs).trans g0
                  have HA := hide (HFA.out wr hB vj l hrow (HCK.out k l hx) HCM.out)
                  have HKS := hide (P.fit_k_succ (m := m) (getD_of hx))
                  have HKL := hide (P.fit_k_len L m k)
                  obtain ⟨al, cl, rfl, _⟩ := hrow
                  clear hcell g0 hx HCK HFA
                  generalize P.fit_k L m k = fk at HOW HKS HKL ⊢
                  cases hf : m.all (P.fit1 l) with
                  | true =>
                    rw [hf] at HA
                    rw [hf, if_pos rfl] at HKS
                    clear hf
                    go_wp2_with fail
                    refine HA.out.mono ?_
                    rintro e w10 ⟨rfl, h10⟩
                    have HO10 := hide (OwnK.below HOW.out h10 (Nat.le_refl _))
                    have HB10 := hide (Below.next hBw h10)
                    clear h10 q0
                    go_wp2_with (at_builtin; refine wp_app1K rfl _ _ 37 3 .i64 8 rfl Try.underlying37 infoI ⟨by decide, by decide⟩ w9.heap.size w9.heap.size w9 w10 _ fk (k : Int) HO10.out HB10.out (Nat.le_refl _) rfl rfl (by have := HKL.out; omega) HB10.out.size ?_; intro v11 w11 ho11 hb11 hs11 hg11)
                    go_roundw
                    case rel => exact ⟨k + 1, by omega, by go_num, by rw [HKS.out]; exact ho11, hb11⟩
                    case measure => simp [intOf]; omega
                  | false =>
                    rw [hf] at HA
                    rw [hf, if_neg (by decide), List.append_nil] at HKS
                    clear hf
                    go_wp2_with fail
                    refine HA.out.mono ?_
                    rintro e w10 ⟨rfl, h10⟩
                    go_wp2
                    go_roundw
                    case rel => exact ⟨k + 1, by omega, by go_num, by rw [HKS.out]; exact OwnK.below HOW.out h10 (Nat.le_refl _), Below.next hBw h10⟩
                    case measure => simp [intOf]; omega
                · obtain rfl : k = L.length := by omega
                  have hdd3 : decide ((L.length : Int) < (L.length : Int)) = false := by simp
                  have HEI := hide (equalI_any _ _ (P.findL L m) (P.fit_k L m L.length) wr (HO9.out.below hBw (Nat.le_refl _)) (OwnK.row HOW.out))
                  rw [show decide (P.findL L m = P.fit_k L m L.length) = true from decide_eq_true rfl] at HEI
                  go_wp2_with (go_at_call 18; refine HEI.out.mono ?_; rintro e w12 ⟨rfl, h12⟩)
                  go_ret
                  exact ⟨rfl, Below.next hB h12⟩
            · have hz3 : (P.chkM m != 0) = true := by simp [hcm]
              have HFL : Hid (fndL L m = []) := by show _ = _; unfold fndL; rw [if_neg hcm]
              rw [show fndL L m = [] from HFL.out]
              have hcc : (P.chkM m == P.chkM m) = true := by simp
              generalize P.chkM m = cm at hz3 hcc ⊢
              clear hcm
              go_wp2
              go_ret
              exact ⟨rfl, HW9.out⟩
  · have he := hne (fun h => hz (HNE.out.symm.trans h))
    subst he
    rw [show P.newE L = P.newF L from HNE.out]
    clear hok hne HF HM HFA HNE HN HEs
    go_wp2
    go_loopw [41, 9] (fun i bd wr => ∃ (k : Nat), k ≤ L.length ∧ i = .int .i64 k ∧ bd = .int .i64 (P.newF (L.take k)) ∧ Below w1.heap.size w1 wr) (fun i _ _ => L.length - (intOf i).toNat)
    case atStart => exact ⟨0, by omega, rfl, rfl, Below.refl _ _⟩
    case round =>
      obtain ⟨k, hk, rfl, rfl, hBr⟩ := hrel
      have hB := Below.next hB1 hBr
      by_cases hlt : k < L.length
      · rcases HCASE.out with h | ⟨b, off, rfl, hbs, hcell⟩
        · rw [h] at hlt; simp at hlt
        have j0 : (0 : Int) ≤ (k : Int) := by omega
        have j1 : (k : Int) < (L.length : Int) := by omega
        obtain ⟨l, hx⟩ : ∃ x, L[k]? = some x := ⟨_, List.getElem?_eq_getElem hlt⟩
        obtain ⟨vj, g0, hrow⟩ := hcell k l hx
        have q0 := (hB.cell (p := ⟨b, off + k, none⟩) hbs).trans g0
        have HG := hide (HLF.out wr hB vj l hrow (List.mem_of_getElem? hx))
        have HSN : Hid (P.newF (L.take (k + 1)) = if P.newF (L.take k) = 0 then P.chk l else P.newF (L.take k)) := by
          show _ = _
          rw [List.take_add_one, hx]; exact P.newF_snoc _ _
        obtain ⟨al, cl, rfl, _⟩ := hrow
        clear hcell g0 hx HLF
        generalize P.newF (L.take k) = bd at HSN ⊢
        by_cases hbd : bd = 0
        · have hb0 : (bd == 0) = true := by simpa using hbd
          rw [if_pos hbd] at HSN
          clear hbd
          go_wp2_with (go_at_call 10; refine HG.out.mono ?_; rintro e w4 ⟨rfl, h4⟩)
          go_roundw
          case rel => exact ⟨k + 1, by omega, by go_num, by rw [HSN.out], Below.next hBr h4⟩
          case measure => simp [intOf]; omega
        · have hb0 : (bd == 0) = false := by simpa using hbd
          rw [if_neg hbd] at HSN
          clear hbd
          go_wp2
          go_roundw
          case rel => exact ⟨k + 1, by omega, by go_num, by rw [HSN.out], hBr⟩
          case measure => simp [intOf]; omega
      · obtain rfl : k = L.length := by omega
        have hdd : decide ((L.length : Int) < (L.length : Int)) = false := by simp
        rw [List.take_length]
        have hP := HEn.out wr
        have hz3 : (P.newF L != 0) = true := by simp [hz]
        have hcc : (P.newF L == P.newF L) = true := by simp
        generalize P.newF L = ne at hz3 hcc ⊢
        clear hz
        go_wp2
        go_ret
        exact ⟨rfl, hB⟩
set_option maxRecDepth 100000 in
set_option maxHeartbeats 2000000 in
theorem walk_IndexTells (v0 : Value) (L : List (List P.Lb)) (v1 : Value) (m : List P.Mt) (s : ByteArray) (w : World) (r0 : RowsL w v0 L) (k0 : ∀ l ∈ L, LbOk l) (rc0 : L.length * 24 ≤ 140737488351232) (r1 : RowM w v1 m) (k1 : MtOk m) (rc1 : m.length * 40 ≤ 140737488351232) (rcs : s.size ≤ 140737488351232)
    (mx : Int) (hmx : w.cell? ⟨0, 0, none⟩ = some (.int .i64 mx)) :
    Calls Try.prog 3 #[v0, v1, .string s] w fun e w' => e = .returned (.bool true) ∧ Below w.heap.size w w' := by
  have HN := hide (fun (W : World) (hb : Below w.heap.size w W) => new_any W v0 L (r0.below hb (Nat.le_refl _)) k0)
  have HF := hide (fun (W : World) (hb : Below w.heap.size w W) (bx : Nat) (hi : Ix W bx L) => find_any W bx L hi v1 m (r1.below hb (Nat.le_refl _)) k1 mx (keep_cell hmx hb))
  have HM := hide (fun (W : World) (hb : Below w.heap.size w W) => matchFault_any v1 m W (r1.below hb (Nat.le_refl _)) k1)
  have HLF := hide (fun (W : World) (hb : Below w.heap.size w W) (vj : Value) (l : List P.Lb) (hr : RowL w vj l) (hl : l ∈ L) => labelsFault_any vj l W (hr.below hb (Nat.le_refl _)) (k0 l hl))
  have HFA := hide (fun (W : World) (hb : Below w.heap.size w W) (vj : Value) (l : List P.Lb) (hr : RowL w vj l) (hc : P.chk l = 0) (hcm : P.chkM m = 0) => fitsAll_any vj v1 l m W (hr.below hb (Nat.le_refl _)) (r1.below hb (Nat.le_refl _)) hc hcm)
  obtain ⟨a0, c0, rfl, ⟨hlc0, hm0⟩, hcase⟩ := r0
  obtain ⟨a1, c1, rfl, ⟨hlc1, hm1, _⟩, _⟩ := r1
  unfold maxLen at hm0 hm1
  have HCASE := hide hcase
  clear hcase hmx
  by_cases h30 : L.length ≤ 30
  · exact tells_ok a0 c0 L a1 c1 m s w hlc0 hm0 hlc1 hm1 HCASE HN HF HM HLF HFA rcs h30
  · have hd1 : decide (30 < (L.length : Int)) = true := by simp; omega
    by_cases h200 : L.length ≤ 200
    · have hd2 : decide ((L.length : Int) ≤ 200) = true := by simp; omega
      clear HN HF HM HLF HFA
      go_enter Try.func3, Try.ntmps3
      go_wp2
      go_ret
      exact ⟨rfl, Below.refl _ _⟩
    · have hd2 : decide ((L.length : Int) ≤ 200) = false := by simp; omega
      have hd3 : decide (200 < (L.length : Int)) = true := by simp; omega
      have HNE : Hid (P.newE L = 2) := by show _ = _; unfold P.newE; rw [if_pos (by omega)]
      have HEn := hide eqP_none
      clear HF HM HLF HFA
      go_enter Try.func3, Try.ntmps3
      go_wp2_with fail
      refine (HN.out _ (Below.refl _ _)).mono ?_
      rintro e w1 ⟨hne, _, hB1⟩
      have he := hne (by rw [HNE.out]; decide)
      subst he
      rw [show P.newE L = 2 from HNE.out]
      have hP := HEn.out w1
      clear hne HN HNE HEn
      go_wp2
      go_loopw [41, 9] (fun i bd wr => ∃ (k : Nat), k ≤ L.length ∧ i = .int .i64 k ∧ bd = .int .i64 2 ∧ wr = w1) (fun i _ _ => L.length - (intOf i).toNat)
      case atStart => exact ⟨0, by omega, rfl, rfl, rfl⟩
      case round =>
        obtain ⟨k, hk, rfl, rfl, rfl⟩ := hrel
        by_cases hlt : k < L.length
        · rcases HCASE.out with h | ⟨b, off, rfl, hbs, hcell⟩
          · rw [h] at hlt; simp at hlt
          have j0 : (0 : Int) ≤ (k : Int) := by omega
          have j1 : (k : Int) < (L.length : Int) := by omega
          obtain ⟨l, hx⟩ : ∃ x, L[k]? = some x := ⟨_, List.getElem?_eq_getElem hlt⟩
          obtain ⟨vj, g0, hrow⟩ := hcell k l hx
          have q0 := (hB1.cell (p := ⟨b, off + k, none⟩) hbs).trans g0
          obtain ⟨al, cl, rfl, _⟩ := hrow
          clear hcell g0 hx
          go_wp2
          go_roundw
          case rel => exact ⟨k + 1, by omega, by go_num, rfl, by first | rfl | trivial⟩
          case measure => simp [intOf]; omega
        · obtain rfl : k = L.length := by omega
          have hdd : decide ((L.length : Int) < (L.length : Int)) = false := by simp
          go_wp2
          go_ret
          exact ⟨rfl, hB1⟩
set_option maxRecDepth 100000 in
theorem lifted_IndexTells (os : Os) (started : os.Started) (H : Type) (enc : TypeId × Value → H) :
    ReturnsInHanded {} Try.checked os 3 .any (Rows.indexTellsSpec.pre6 enc Try.prog Try.f3 Rows.indexTellsRow.domain false) (Rows.indexTellsSpec.post enc Try.prog Try.f3 false true false false) := by
  refine returnsInHanded_of_change_shaped (C := Try.checked) own started (by kernel_rfl) Try.func3
    (ChangeSpec.witness6 (enc := enc) (C := Try.checked) false ⟨#[], #[.slice none 0 0, .slice none 0 0, .string ⟨#[]⟩], []⟩ 8 (by kernel_rfl) (by kernel_rfl) (by kernel_rfl) (by kernel_rfl)) ?_
  intro W base args ds gs before hval0 hW hcnd hsz0 hsh _
  obtain ⟨mx, hmx0⟩ := Try.laysM144.s1_3 W hsh
  have hmx : W.cell? ⟨0, 0, none⟩ = some (.int .i64 mx) := hmx0
  have hsz : (DataW.weightsEach Try.prog (Try.f3.params.toList ++ Rows.indexTellsSpec.plain.varTypes Try.prog) (ds ++ gs)).all (· ≤ reachBytes) = true := hsz0
  have hval : ∀ (j : Nat) t v, Try.f3.params[j]? = some t → args[j]? = some v → Value.okWide Try.prog W .any base t v := hval0
  have hW' := hW
  obtain ⟨p, q, hA0, hV, rfl, hfz, hnd⟩ := hW
  have hA : DataW.TrodAll enc Try.prog W 0 (fun _ => true) true Try.f3.params.toList args.toList ds p := hA0
  rw [Try.params3] at hA hval hsz
  obtain ⟨v0, vs0, d0, ds0, p0, q0, hargs, rfl, rfl, h0, r0⟩ := trodAll_cons hA
  obtain ⟨v1, vs1, d1, ds1, p1, q1, rfl, rfl, rfl, h1, r1⟩ := trodAll_cons r0
  obtain ⟨v2, vs2, d2, ds2, p2, q2, rfl, rfl, rfl, h2, r2⟩ := trodAll_cons r1
  obtain ⟨rfl, rfl, rfl⟩ := trodAll_nil r2
  obtain rfl : args = #[v0, v1, v2] := by cases args; simp_all
  obtain ⟨rfl, rfl⟩ := trodVars_none hV
  have k0 := h0
  have lt0 : ∀ x ∈ p0, x.block < W.heap.size := by obtain ⟨m, hm⟩ := k0; exact DataW.trod_lt m _ _ _ hm
  obtain ⟨s0, len0, cap0, rfl⟩ := okWide_slice Try.underlying22 (hval 0 22 v0 rfl rfl)
  obtain ⟨l0, row0, wf0, sh0⟩ := open_labelss h0
  have rc0 := row_reachN hsz (j := 0) (t := 22) rfl rfl Try.underlying22 sh0
  rw [bytes28] at rc0
  have k1 := h1
  have lt1 : ∀ x ∈ p1, x.block < W.heap.size := by obtain ⟨m, hm⟩ := k1; exact DataW.trod_lt m _ _ _ hm
  obtain ⟨s1, len1, cap1, rfl⟩ := okWide_slice Try.underlying23 (hval 1 23 v1 rfl rfl)
  obtain ⟨l1, row1, wf1, sh1⟩ := open_matches h1
  have rc1 := row_reachN hsz (j := 1) (t := 23) rfl rfl Try.underlying23 sh1
  rw [bytes56] at rc1
  have k2 := h2
  have lt2 : ∀ x ∈ p2, x.block < W.heap.size := by obtain ⟨m, hm⟩ := k2; exact DataW.trod_lt m _ _ _ hm
  obtain ⟨x2, rfl, rfl, rfl, ws2⟩ := Go.ChangeMaps.open_string Try.underlying9 (hval 2 9 v2 rfl rfl) h2
  have rc2 : x2.size ≤ 140737488351232 := by rw [Lib.size_eq]; exact sized_string hsz (j := 2) (t := 9) rfl rfl
  clear hA0 hval0
  refine (walk_IndexTells (.slice s0 len0 cap0) l0 (.slice s1 len1 cap1) l1 x2 W row0 wf0 rc0 row1 wf1 rc1 rc2 mx hmx).mono fun e W' ⟨he, bel⟩ => ?_
  subst he
  exact ⟨_, rfl, _, _, _, [], _, [], hW', trodAll_mk1 (shut_bool Try.underlying4 _), (trodAll_cons_mk (Below.trod laidOut (by kernel_rfl) (of_decide_eq_true (by kernel_rfl)) k0 bel lt0) (trodAll_cons_mk (Below.trod laidOut (by kernel_rfl) (of_decide_eq_true (by kernel_rfl)) k1 bel lt1) (trodAll_cons_mk (Below.trod laidOut (by kernel_rfl) (of_decide_eq_true (by kernel_rfl)) k2 bel lt2) trodAll_mk0))), rfl, bel.frame _, fun h => by cases h⟩

theorem proved_IndexTells : Rows.IndexTellsSaid :=
  OpenClaim.holds_of_wide 3 Try.f3 rfl rfl rfl rfl rfl rfl rfl ⟨rfl, rfl, rfl, rfl, rfl⟩ rfl rfl rfl rfl rfl (by kernel_rfl) Try.func3 (by kernel_rfl)
    (of_decide_eq_true (by kernel_rfl)) (by unfold Func.isWrapper; first | (rw [if_pos (by decide +kernel)]; kernel_rfl) | (rw [if_neg (by decide +kernel)]; exact ⟨rfl, rfl⟩))
    (fun os started H enc _ => lifted_IndexTells os started H enc)
#print axioms proved_IndexTells
end Go.Proofs.Ytlghnnmgbdjgoaa
