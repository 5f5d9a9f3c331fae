/- Several texts in one. -/
import Derived.Test.YtpinhcbkfjoopaaSoPeqAll
/- Numbers below 2^64: what lies below the pivot, in front. -/
namespace Go.Proofs.Ytpinhcbkfjoopaa
open Go.RowKit
set_option linter.unusedVariables false
namespace So
open Go.Sort
theorem pl_on {a i j i2 j2 : Nat} {d : Array Int} (h1 : scanUp (fun x => ltInt x d[a]!) d j i = i2) (h2 : scanDown (fun x => !ltInt x d[a]!) d i2 j = j2) (h : i2 ≤ j2) : partLoop ltInt a i j d = partLoop ltInt a (i2 + 1) (j2 - 1) (swp d i2 j2) := by
  rw [partLoop_eq, h1, h2, if_neg (by omega)]
theorem pl_off {a i j i2 j2 : Nat} {d : Array Int} (h1 : scanUp (fun x => ltInt x d[a]!) d j i = i2) (h2 : scanDown (fun x => !ltInt x d[a]!) d i2 j = j2) (h : j2 < i2) : partLoop ltInt a i j d = (j2, d) := by
  rw [partLoop_eq, h1, h2, if_pos h]
theorem pt_on {a b pv i2 j2 : Nat} {d dk : Array Int} (hd : swp d a pv = dk) (h1 : scanUp (fun x => ltInt x dk[a]!) dk (b - 1) (a + 1) = i2) (h2 : scanDown (fun x => !ltInt x dk[a]!) dk i2 (b - 1) = j2) (h : i2 ≤ j2) :
    partition ltInt d a b pv = ((partLoop ltInt a (i2 + 1) (j2 - 1) (swp dk i2 j2)).1, false, swp (partLoop ltInt a (i2 + 1) (j2 - 1) (swp dk i2 j2)).2 (partLoop ltInt a (i2 + 1) (j2 - 1) (swp dk i2 j2)).1 a) := by
  subst hd
  simp only [partition, h1, h2]
  rw [if_neg (by omega)]
theorem pt_off {a b pv i2 j2 : Nat} {d dk : Array Int} (hd : swp d a pv = dk) (h1 : scanUp (fun x => ltInt x dk[a]!) dk (b - 1) (a + 1) = i2) (h2 : scanDown (fun x => !ltInt x dk[a]!) dk i2 (b - 1) = j2) (h : j2 < i2) :
    partition ltInt d a b pv = (j2, true, swp dk j2 a) := by
  subst hd
  simp only [partition, h1, h2]
  rw [if_pos h]
end So
set_option maxHeartbeats 8000000 in
set_option maxRecDepth 100000 in
theorem part_u {B : Nat} {w0 w : World} {g n cap : Nat} {d : Array Int} (h : InR B w0 g n cap w d) (a b pv : Nat) (ha : a ≤ pv) (hp : pv < b) (hb : b ≤ n) (hn : n ≤ 1152921504606846976) :
    Calls Try.prog 53 #[.slice (some ⟨g, 0, none⟩) n cap, .int .i64 a, .int .i64 b, .int .i64 pv] w fun e w' =>
      e = .returned (.tuple #[.int .i64 ((Sort.partition Sort.ltInt d a b pv).1 : Nat), .bool (Sort.partition Sort.ltInt d a b pv).2.1]) ∧ InR B w0 g n cap w' (Sort.partition Sort.ltInt d a b pv).2.2 := by
  have HD := hide h
  have c0 := h.cell a (by omega)
  have c1 := h.cell pv (by omega)
  have f0 := h.free a
  have f1 := h.free pv
  have j0 : (0 : Int) ≤ (a : Int) := by omega
  have j1 : (a : Int) < (n : Int) := by omega
  have jp0 : (0 : Int) ≤ (pv : Int) := by omega
  have jp1 : (pv : Int) < (n : Int) := by omega
  have s1 := (h.set a d[pv]!).cell pv (by omega)
  have t1 := (h.set a d[pv]!).free pv
  clear h
  generalize (d.setIfInBounds a d[pv]!)[pv]! = z at s1
  generalize hx : d[a]! = x at c0
  generalize hy : d[pv]! = y at c1 s1 t1
  have HX := hide hx
  have HY := hide hy
  clear hx hy
  go_enter Try.func53, Try.ntmps53
  go_wp2
  go_region
  have HK2 := (HD.out.swap a pv).draw 1
  rw [HX.out, HY.out] at HK2
  replace HK2 := hide HK2
  clear c0 c1 f0 f1 s1 t1 HX HY
  change Hid (InR B w0 g n cap ((w.setCell ⟨g, a, none⟩ (.int .u64 y)).setCell ⟨g, pv, none⟩ (.int .u64 x)).drew _) at HK2
  generalize ((w.setCell ⟨g, a, none⟩ (.int .u64 y)).setCell ⟨g, pv, none⟩ (.int .u64 x)).drew = W2 at *
  clear HD
  obtain ⟨dk, HDK⟩ : ∃ dk, Hid (Sort.swp d a pv = dk) := ⟨_, hide rfl⟩
  rw [HDK.out] at HK2
  obtain ⟨i, HI⟩ : ∃ i, Hid (i = a + 1) := ⟨_, hide rfl⟩
  obtain ⟨j, HJ⟩ : ∃ j, Hid (j = b - 1) := ⟨_, hide rfl⟩
  have hai : a < i := by have := HI.out; omega
  have hij : i ≤ j + 1 := by have := HI.out; have := HJ.out; omega
  have hjb : j < b := by have := HJ.out; omega
  have ei : IntKind.i64.wrap ((a : Int) + 1) = (i : Int) := by rw [IntKind.wrap_i64]; have := HI.out; omega
  have ej : IntKind.i64.wrap ((b : Int) - 1) = (j : Int) := by rw [IntKind.wrap_i64]; have := HJ.out; omega
  go_wp2
  clear ei ej
  go_loopw [10] (fun vi wr => ∃ (i' : Nat), vi = .int .i64 i' ∧ i ≤ i' ∧ i' ≤ j + 1 ∧ InR B w0 g n cap wr dk ∧ Hid (Sort.scanUp (fun x => Sort.ltInt x dk[a]!) dk j i' = Sort.scanUp (fun x => Sort.ltInt x dk[a]!) dk j i)) (fun vi _ => (j + 2 - numOf vi).toNat)
  case atStart => exact ⟨i, rfl, Nat.le_refl _, hij, HK2.out, hide rfl⟩
  case round =>
    clear HK2
    obtain ⟨i2, rfl, hi2, hi2j, hk, HU⟩ := hrel
    have HK := hide hk
    by_cases hle : i2 ≤ j
    · have hd : decide ((i2 : Int) ≤ (j : Int)) = true := by simp; omega
      have c0 := hk.cell a (by omega)
      have c1 := hk.cell i2 (by omega)
      have j4 : (0 : Int) ≤ (i2 : Int) := by omega
      have j5 : (i2 : Int) < (n : Int) := by omega
      generalize hx : dk[a]! = x at c0
      generalize hy : dk[i2]! = y at c1
      have HX := hide hx
      have HY := hide hy
      clear hx hy hk
      by_cases hlt : y < x
      · have hd3 : decide (y < x) = true := by simpa using hlt
        go_wp2
        go_quiet (first | (go_at_call 51; refine Calls.quiet_of_same (less_u _ _ _)))
        go_wp2
        go_roundw
        case rel => exact ⟨i2 + 1, by go_num, by omega, by omega, HK.out.draw _, hide (by have e := (So.su_on (p := (fun x => Sort.ltInt x dk[a]!)) (d := dk) hle (by simp only [Sort.ltInt]; rw [HX.out, HY.out, hd3])).symm.trans HU.out; rw [HX.out] at e; exact e)⟩
        case measure => simp [numOf]; omega
      · have hd3 : decide (y < x) = false := by simpa using hlt
        have HS := hide (HU.out.symm.trans (So.su_off (p := (fun x => Sort.ltInt x dk[a]!)) (d := dk) (i := i2) (j := j) (Or.inr (by simp only [Sort.ltInt]; rw [HX.out, HY.out, hd3]))))
        have HN := hide (show dk[a]! ≤ dk[i2]! by rw [HX.out, HY.out]; omega)
        go_wp2
        go_quiet (first | (go_at_call 51; refine Calls.quiet_of_same (less_u _ _ _)))
        go_wp2
        have HK2 := hide (HK.out.draw nq)
        clear HU HX HY c0 c1 HK hle hlt hd hd3 j4 j5
        go_loopw [11] (fun vj wr => ∃ (j' : Nat), vj = .int .i64 j' ∧ j' ≤ j ∧ i2 ≤ j' + 1 ∧ InR B w0 g n cap wr dk ∧ Hid (Sort.scanDown (fun x => !Sort.ltInt x dk[a]!) dk i2 j' = Sort.scanDown (fun x => !Sort.ltInt x dk[a]!) dk i2 j)) (fun vj _ => (numOf vj + 1 - i2).toNat)
        case atStart => exact ⟨j, rfl, Nat.le_refl _, hi2j, HK2.out, hide rfl⟩
        case round =>
          clear HK2
          obtain ⟨j2, rfl, hj2, hij2, hk, HV⟩ := hrel
          have HK := hide hk
          by_cases hle : i2 ≤ j2
          · have hd : decide ((i2 : Int) ≤ (j2 : Int)) = true := by simp; omega
            have c0 := hk.cell a (by omega)
            have c1 := hk.cell j2 (by omega)
            have f1 := hk.free j2
            have j4 : (0 : Int) ≤ (j2 : Int) := by omega
            have j5 : (j2 : Int) < (n : Int) := by omega
            generalize hx : dk[a]! = x at c0
            generalize hy : dk[j2]! = y at c1
            have HX := hide hx
            have HY := hide hy
            clear hx hy hk
            by_cases hlt : y < x
            · have hd3 : decide (y < x) = true := by simpa using hlt
              have hne : i2 ≠ j2 := fun e => by have h1 := HN.out; rw [e, HX.out, HY.out] at h1; omega
              have c2 := HK.out.cell i2 (by omega)
              have f2 := HK.out.free i2
              have j6 : (0 : Int) ≤ (i2 : Int) := by omega
              have j7 : (i2 : Int) < (n : Int) := by omega
              have hd6 : decide ((j2 : Int) < (i2 : Int)) = false := by simp; omega
              generalize hz : dk[i2]! = z at c2
              have HZ := hide hz
              clear hz
              have HE := hide (HV.out.symm.trans (So.sdn_off (p := (fun x => !Sort.ltInt x dk[a]!)) (d := dk) (i := i2) (j := j2) (Or.inr (by simp only [Sort.ltInt]; rw [HX.out, HY.out, hd3]; rfl))))
              go_wp2
              go_quiet (first | (go_at_call 51; refine Calls.quiet_of_same (less_u _ _ _)))
              go_wp2
              have HK2 := hide (HK.out.draw nq)
              change Hid (InR B w0 g n cap (wr.drewN nq) dk) at HK2
              have c1' : (wr.drewN nq).cell? ⟨g, j2, none⟩ = _ := c1
              have c2' : (wr.drewN nq).cell? ⟨g, i2, none⟩ = _ := c2
              have f1' : (wr.drewN nq).frozen? ⟨g, j2, none⟩ = _ := f1
              have f2' : (wr.drewN nq).frozen? ⟨g, i2, none⟩ = _ := f2
              clear c0 c1 c2 f1 f2 HK
              generalize wr.drewN nq = W3 at *
              go_region
              have HK3 := (HK2.out.swap i2 j2).draw 1
              rw [HY.out, HZ.out] at HK3
              replace HK3 := hide HK3
              change Hid (InR B w0 g n cap ((W3.setCell ⟨g, i2, none⟩ (.int .u64 y)).setCell ⟨g, j2, none⟩ (.int .u64 z)).drew _) at HK3
              clear c1' c2' f1' f2' HK2
              generalize ((W3.setCell ⟨g, i2, none⟩ (.int .u64 y)).setCell ⟨g, j2, none⟩ (.int .u64 z)).drew = W4 at *
              go_wp2
              have hS := HS.out
              have hE := HE.out
              rw [HI.out, HJ.out] at hS
              rw [HJ.out] at hE
              have HP := hide (So.pt_on HDK.out hS hE hle)
              have HD2 := hide (rfl : Sort.swp dk i2 j2 = Sort.swp dk i2 j2)
              clear hS hE HX HY HZ HS HE
              obtain ⟨R, HR⟩ : ∃ R, Hid (Sort.partLoop Sort.ltInt a (i2 + 1) (j2 - 1) (Sort.swp dk i2 j2) = R) := ⟨_, hide rfl⟩
              rw [HR.out] at HP
              have hd8 : decide (j2 < i2) = false := by simp; omega
              rw [hd8]
              clear hd8
              go_loopw [10, 11] (fun vi vj wr => ∃ (i j : Nat) (dl : Array Int), vi = .int .i64 i ∧ vj = .int .i64 j ∧ a < i ∧ i ≤ j + 1 ∧ j < b ∧ InR B w0 g n cap wr dl ∧ Hid (Sort.partLoop Sort.ltInt a i j dl = R)) (fun vi vj _ => (numOf vj + 2 - numOf vi).toNat)
              case atStart => exact ⟨i2 + 1, j2 - 1, _, by go_num, by congr 1; omega, by omega, by omega, by omega, HK3.out, hide HR.out⟩
              case round =>
                clear HR HK3 HN HDK HV hle hne hlt hd hd3 hd6 hj2 hij2 hi2 hi2j j4 j5 j6 j7
                clear HI HJ hai hij hjb
                obtain ⟨i, j, dk, rfl, rfl, hai, hij, hjb, hk, HO⟩ := hrel
                have HK2 := hide hk
                clear hk
                have HI : Hid (i = i) := hide rfl
                have HJ : Hid (j = j) := hide rfl
                go_wp2
                go_loopw [10] (fun vi wr => ∃ (i' : Nat), vi = .int .i64 i' ∧ i ≤ i' ∧ i' ≤ j + 1 ∧ InR B w0 g n cap wr dk ∧ Hid (Sort.scanUp (fun x => Sort.ltInt x dk[a]!) dk j i' = Sort.scanUp (fun x => Sort.ltInt x dk[a]!) dk j i)) (fun vi _ => (j + 2 - numOf vi).toNat)
                case atStart => exact ⟨i, rfl, Nat.le_refl _, hij, HK2.out, hide rfl⟩
                case round =>
                  clear HK2
                  obtain ⟨i2, rfl, hi2, hi2j, hk, HU⟩ := hrel
                  have HK := hide hk
                  by_cases hle : i2 ≤ j
                  · have hd : decide ((i2 : Int) ≤ (j : Int)) = true := by simp; omega
                    have c0 := hk.cell a (by omega)
                    have c1 := hk.cell i2 (by omega)
                    have j4 : (0 : Int) ≤ (i2 : Int) := by omega
                    have j5 : (i2 : Int) < (n : Int) := by omega
                    generalize hx : dk[a]! = x at c0
                    generalize hy : dk[i2]! = y at c1
                    have HX := hide hx
                    have HY := hide hy
                    clear hx hy hk
                    by_cases hlt : y < x
                    · have hd3 : decide (y < x) = true := by simpa using hlt
                      go_wp2
                      go_quiet (first | (go_at_call 51; refine Calls.quiet_of_same (less_u _ _ _)))
                      go_wp2
                      go_roundw
                      case rel => exact ⟨i2 + 1, by go_num, by omega, by omega, HK.out.draw _, hide (by have e := (So.su_on (p := (fun x => Sort.ltInt x dk[a]!)) (d := dk) hle (by simp only [Sort.ltInt]; rw [HX.out, HY.out, hd3])).symm.trans HU.out; rw [HX.out] at e; exact e)⟩
                      case measure => simp [numOf]; omega
                    · have hd3 : decide (y < x) = false := by simpa using hlt
                      have HS := hide (HU.out.symm.trans (So.su_off (p := (fun x => Sort.ltInt x dk[a]!)) (d := dk) (i := i2) (j := j) (Or.inr (by simp only [Sort.ltInt]; rw [HX.out, HY.out, hd3]))))
                      have HN := hide (show dk[a]! ≤ dk[i2]! by rw [HX.out, HY.out]; omega)
                      go_wp2
                      go_quiet (first | (go_at_call 51; refine Calls.quiet_of_same (less_u _ _ _)))
                      go_wp2
                      have HK2 := hide (HK.out.draw nq)
                      clear HU HX HY c0 c1 HK hle hlt hd hd3 j4 j5
                      go_loopw [11] (fun vj wr => ∃ (j' : Nat), vj = .int .i64 j' ∧ j' ≤ j ∧ i2 ≤ j' + 1 ∧ InR B w0 g n cap wr dk ∧ Hid (Sort.scanDown (fun x => !Sort.ltInt x dk[a]!) dk i2 j' = Sort.scanDown (fun x => !Sort.ltInt x dk[a]!) dk i2 j)) (fun vj _ => (numOf vj + 1 - i2).toNat)
                      case atStart => exact ⟨j, rfl, Nat.le_refl _, hi2j, HK2.out, hide rfl⟩
                      case round =>
                        clear HK2
                        obtain ⟨j2, rfl, hj2, hij2, hk, HV⟩ := hrel
                        have HK := hide hk
                        by_cases hle : i2 ≤ j2
                        · have hd : decide ((i2 : Int) ≤ (j2 : Int)) = true := by simp; omega
                          have c0 := hk.cell a (by omega)
                          have c1 := hk.cell j2 (by omega)
                          have f1 := hk.free j2
                          have j4 : (0 : Int) ≤ (j2 : Int) := by omega
                          have j5 : (j2 : Int) < (n : Int) := by omega
                          generalize hx : dk[a]! = x at c0
                          generalize hy : dk[j2]! = y at c1
                          have HX := hide hx
                          have HY := hide hy
                          clear hx hy hk
                          by_cases hlt : y < x
                          · have hd3 : decide (y < x) = true := by simpa using hlt
                            have hne : i2 ≠ j2 := fun e => by have h1 := HN.out; rw [e, HX.out, HY.out] at h1; omega
                            have c2 := HK.out.cell i2 (by omega)
                            have f2 := HK.out.free i2
                            have j6 : (0 : Int) ≤ (i2 : Int) := by omega
                            have j7 : (i2 : Int) < (n : Int) := by omega
                            have hd6 : decide ((j2 : Int) < (i2 : Int)) = false := by simp; omega
                            generalize hz : dk[i2]! = z at c2
                            have HZ := hide hz
                            clear hz
                            have HE := hide (HV.out.symm.trans (So.sdn_off (p := (fun x => !Sort.ltInt x dk[a]!)) (d := dk) (i := i2) (j := j2) (Or.inr (by simp only [Sort.ltInt]; rw [HX.out, HY.out, hd3]; rfl))))
                            go_wp2
                            go_quiet (first | (go_at_call 51; refine Calls.quiet_of_same (less_u _ _ _)))
                            go_wp2
                            have HK2 := hide (HK.out.draw nq)
                            change Hid (InR B w0 g n cap (wr.drewN nq) dk) at HK2
                            have c1' : (wr.drewN nq).cell? ⟨g, j2, none⟩ = _ := c1
                            have c2' : (wr.drewN nq).cell? ⟨g, i2, none⟩ = _ := c2
                            have f1' : (wr.drewN nq).frozen? ⟨g, j2, none⟩ = _ := f1
                            have f2' : (wr.drewN nq).frozen? ⟨g, i2, none⟩ = _ := f2
                            clear c0 c1 c2 f1 f2 HK
                            generalize wr.drewN nq = W3 at *
                            go_region
                            have HK3 := (HK2.out.swap i2 j2).draw 1
                            rw [HY.out, HZ.out] at HK3
                            replace HK3 := hide HK3
                            change Hid (InR B w0 g n cap ((W3.setCell ⟨g, i2, none⟩ (.int .u64 y)).setCell ⟨g, j2, none⟩ (.int .u64 z)).drew _) at HK3
                            clear c1' c2' f1' f2' HK2
                            generalize ((W3.setCell ⟨g, i2, none⟩ (.int .u64 y)).setCell ⟨g, j2, none⟩ (.int .u64 z)).drew = W4 at *
                            go_wp2
                            go_roundw
                            case rel => exact ⟨i2 + 1, j2 - 1, _, by go_num, by congr 1; omega, by omega, by omega, by omega, HK3.out, hide ((So.pl_on HS.out HE.out hle).symm.trans HO.out)⟩
                            case measure => simp [numOf]; omega
                          · have hd3 : decide (y < x) = false := by simpa using hlt
                            go_wp2
                            go_quiet (first | (go_at_call 51; refine Calls.quiet_of_same (less_u _ _ _)))
                            go_wp2
                            go_roundw
                            case rel => exact ⟨j2 - 1, by congr 1; omega, by omega, by omega, HK.out.draw _, hide (by have e := (So.sdn_on (p := (fun x => !Sort.ltInt x dk[a]!)) (d := dk) hle (by omega) (by simp only [Sort.ltInt]; rw [HX.out, HY.out, hd3]; rfl)).symm.trans HV.out; rw [HX.out] at e; exact e)⟩
                            case measure => simp [numOf]; omega
                        · have hd : decide ((i2 : Int) ≤ (j2 : Int)) = false := by simp; omega
                          have hd5 : decide ((j2 : Int) < (i2 : Int)) = true := by simp; omega
                          have HE := hide (HV.out.symm.trans (So.sdn_off (p := (fun x => !Sort.ltInt x dk[a]!)) (d := dk) (i := i2) (j := j2) (Or.inl (by omega))))
                          have c0 := hk.cell j2 (by omega)
                          have c1 := hk.cell a (by omega)
                          have f0 := hk.free j2
                          have f1 := hk.free a
                          have j4 : (0 : Int) ≤ (j2 : Int) := by omega
                          have j5 : (j2 : Int) < (n : Int) := by omega
                          have s1 := (hk.set j2 dk[a]!).cell a (by omega)
                          have t1 := (hk.set j2 dk[a]!).free a
                          generalize (dk.setIfInBounds j2 dk[a]!)[a]! = s0 at s1
                          generalize hy : dk[a]! = y at c1 s1 t1
                          generalize hx : dk[j2]! = x at c0
                          have HX := hide hx
                          have HY := hide hy
                          clear hk hx hy
                          go_wp2
                          go_quiet (first | (go_at_call 51; refine Calls.quiet_of_same (less_u _ _ _)))
                          go_wp2
                          have HK2 := hide (HK.out.draw nq)
                          change Hid (InR B w0 g n cap (wr.drewN nq) dk) at HK2
                          have c0' : (wr.drewN nq).cell? ⟨g, j2, none⟩ = _ := c0
                          have c1' : (wr.drewN nq).cell? ⟨g, a, none⟩ = _ := c1
                          have f0' : (wr.drewN nq).frozen? ⟨g, j2, none⟩ = _ := f0
                          have f1' : (wr.drewN nq).frozen? ⟨g, a, none⟩ = _ := f1
                          have s1' : ((wr.drewN nq).setCell ⟨g, j2, none⟩ (.int .u64 y)).cell? ⟨g, a, none⟩ = _ := s1
                          have t1' : ((wr.drewN nq).setCell ⟨g, j2, none⟩ (.int .u64 y)).frozen? ⟨g, a, none⟩ = _ := t1
                          clear c0 c1 f0 f1 s1 t1 HK
                          generalize wr.drewN nq = W3 at *
                          go_region
                          have HK3 := (HK2.out.swap j2 a).draw 1
                          rw [HX.out, HY.out] at HK3
                          replace HK3 := hide HK3
                          change Hid (InR B w0 g n cap ((W3.setCell ⟨g, j2, none⟩ (.int .u64 y)).setCell ⟨g, a, none⟩ (.int .u64 x)).drew _) at HK3
                          clear c0' c1' f0' f1' s1' t1' HK2
                          generalize ((W3.setCell ⟨g, j2, none⟩ (.int .u64 y)).setCell ⟨g, a, none⟩ (.int .u64 x)).drew = W4 at *
                          go_wp2
                          refine bodyPost_ret (results_tmp2 rfl _ _ _) rfl ?_
                          rw [HP.out]
                          have e := HO.out.symm.trans (So.pl_off HS.out HE.out (by omega))
                          rw [e]
                          exact ⟨rfl, HK3.out⟩
                  · have hd : decide ((i2 : Int) ≤ (j : Int)) = false := by simp; omega
                    have hjl : j < i2 := by omega
                    have HS := hide (HU.out.symm.trans (So.su_off (p := (fun x => Sort.ltInt x dk[a]!)) (d := dk) (i := i2) (j := j) (Or.inl (by omega))))
                    clear hk
                    go_wp2
                    go_quiet (first | (go_at_call 51; refine Calls.quiet_of_same (less_u _ _ _)))
                    go_wp2
                    have HK2 := hide (HK.out.draw nq)
                    clear HU HK hd
                    go_loopw [11] (fun vj wr => ∃ (j' : Nat), vj = .int .i64 j' ∧ j' ≤ j ∧ i2 ≤ j' + 1 ∧ InR B w0 g n cap wr dk ∧ Hid (Sort.scanDown (fun x => !Sort.ltInt x dk[a]!) dk i2 j' = Sort.scanDown (fun x => !Sort.ltInt x dk[a]!) dk i2 j)) (fun vj _ => (numOf vj + 1 - i2).toNat)
                    case atStart => exact ⟨j, rfl, Nat.le_refl _, hi2j, HK2.out, hide rfl⟩
                    case round =>
                      clear HK2
                      obtain ⟨j2, rfl, hj2, hij2, hk, HV⟩ := hrel
                      have HK := hide hk
                      by_cases hle : i2 ≤ j2
                      · exfalso; omega
                      · have hd : decide ((i2 : Int) ≤ (j2 : Int)) = false := by simp; omega
                        have hd5 : decide ((j2 : Int) < (i2 : Int)) = true := by simp; omega
                        have HE := hide (HV.out.symm.trans (So.sdn_off (p := (fun x => !Sort.ltInt x dk[a]!)) (d := dk) (i := i2) (j := j2) (Or.inl (by omega))))
                        have c0 := hk.cell j2 (by omega)
                        have c1 := hk.cell a (by omega)
                        have f0 := hk.free j2
                        have f1 := hk.free a
                        have j4 : (0 : Int) ≤ (j2 : Int) := by omega
                        have j5 : (j2 : Int) < (n : Int) := by omega
                        have s1 := (hk.set j2 dk[a]!).cell a (by omega)
                        have t1 := (hk.set j2 dk[a]!).free a
                        generalize (dk.setIfInBounds j2 dk[a]!)[a]! = s0 at s1
                        generalize hy : dk[a]! = y at c1 s1 t1
                        generalize hx : dk[j2]! = x at c0
                        have HX := hide hx
                        have HY := hide hy
                        clear hk hx hy
                        go_wp2
                        go_quiet (first | (go_at_call 51; refine Calls.quiet_of_same (less_u _ _ _)))
                        go_wp2
                        have HK2 := hide (HK.out.draw nq)
                        change Hid (InR B w0 g n cap (wr.drewN nq) dk) at HK2
                        have c0' : (wr.drewN nq).cell? ⟨g, j2, none⟩ = _ := c0
                        have c1' : (wr.drewN nq).cell? ⟨g, a, none⟩ = _ := c1
                        have f0' : (wr.drewN nq).frozen? ⟨g, j2, none⟩ = _ := f0
                        have f1' : (wr.drewN nq).frozen? ⟨g, a, none⟩ = _ := f1
                        have s1' : ((wr.drewN nq).setCell ⟨g, j2, none⟩ (.int .u64 y)).cell? ⟨g, a, none⟩ = _ := s1
                        have t1' : ((wr.drewN nq).setCell ⟨g, j2, none⟩ (.int .u64 y)).frozen? ⟨g, a, none⟩ = _ := t1
                        clear c0 c1 f0 f1 s1 t1 HK
                        generalize wr.drewN nq = W3 at *
                        go_region
                        have HK3 := (HK2.out.swap j2 a).draw 1
                        rw [HX.out, HY.out] at HK3
                        replace HK3 := hide HK3
                        change Hid (InR B w0 g n cap ((W3.setCell ⟨g, j2, none⟩ (.int .u64 y)).setCell ⟨g, a, none⟩ (.int .u64 x)).drew _) at HK3
                        clear c0' c1' f0' f1' s1' t1' HK2
                        generalize ((W3.setCell ⟨g, j2, none⟩ (.int .u64 y)).setCell ⟨g, a, none⟩ (.int .u64 x)).drew = W4 at *
                        go_wp2
                        refine bodyPost_ret (results_tmp2 rfl _ _ _) rfl ?_
                        rw [HP.out]
                        have e := HO.out.symm.trans (So.pl_off HS.out HE.out (by omega))
                        rw [e]
                        exact ⟨rfl, HK3.out⟩
            · have hd3 : decide (y < x) = false := by simpa using hlt
              go_wp2
              go_quiet (first | (go_at_call 51; refine Calls.quiet_of_same (less_u _ _ _)))
              go_wp2
              go_roundw
              case rel => exact ⟨j2 - 1, by congr 1; omega, by omega, by omega, HK.out.draw _, hide (by have e := (So.sdn_on (p := (fun x => !Sort.ltInt x dk[a]!)) (d := dk) hle (by omega) (by simp only [Sort.ltInt]; rw [HX.out, HY.out, hd3]; rfl)).symm.trans HV.out; rw [HX.out] at e; exact e)⟩
              case measure => simp [numOf]; omega
          · have hd : decide ((i2 : Int) ≤ (j2 : Int)) = false := by simp; omega
            have hd5 : decide ((j2 : Int) < (i2 : Int)) = true := by simp; omega
            have HE := hide (HV.out.symm.trans (So.sdn_off (p := (fun x => !Sort.ltInt x dk[a]!)) (d := dk) (i := i2) (j := j2) (Or.inl (by omega))))
            have c0 := hk.cell j2 (by omega)
            have c1 := hk.cell a (by omega)
            have f0 := hk.free j2
            have f1 := hk.free a
            have j4 : (0 : Int) ≤ (j2 : Int) := by omega
            have j5 : (j2 : Int) < (n : Int) := by omega
            have s1 := (hk.set j2 dk[a]!).cell a (by omega)
            have t1 := (hk.set j2 dk[a]!).free a
            generalize (dk.setIfInBounds j2 dk[a]!)[a]! = s0 at s1
            generalize hy : dk[a]! = y at c1 s1 t1
            generalize hx : dk[j2]! = x at c0
            have HX := hide hx
            have HY := hide hy
            clear hk hx hy
            go_wp2
            go_quiet (first | (go_at_call 51; refine Calls.quiet_of_same (less_u _ _ _)))
            go_wp2
            have HK2 := hide (HK.out.draw nq)
            change Hid (InR B w0 g n cap (wr.drewN nq) dk) at HK2
            have c0' : (wr.drewN nq).cell? ⟨g, j2, none⟩ = _ := c0
            have c1' : (wr.drewN nq).cell? ⟨g, a, none⟩ = _ := c1
            have f0' : (wr.drewN nq).frozen? ⟨g, j2, none⟩ = _ := f0
            have f1' : (wr.drewN nq).frozen? ⟨g, a, none⟩ = _ := f1
            have s1' : ((wr.drewN nq).setCell ⟨g, j2, none⟩ (.int .u64 y)).cell? ⟨g, a, none⟩ = _ := s1
            have t1' : ((wr.drewN nq).setCell ⟨g, j2, none⟩ (.int .u64 y)).frozen? ⟨g, a, none⟩ = _ := t1
            clear c0 c1 f0 f1 s1 t1 HK
            generalize wr.drewN nq = W3 at *
            go_region
            have HK3 := (HK2.out.swap j2 a).draw 1
            rw [HX.out, HY.out] at HK3
            replace HK3 := hide HK3
            change Hid (InR B w0 g n cap ((W3.setCell ⟨g, j2, none⟩ (.int .u64 y)).setCell ⟨g, a, none⟩ (.int .u64 x)).drew _) at HK3
            clear c0' c1' f0' f1' s1' t1' HK2
            generalize ((W3.setCell ⟨g, j2, none⟩ (.int .u64 y)).setCell ⟨g, a, none⟩ (.int .u64 x)).drew = W4 at *
            go_wp2
            refine bodyPost_ret (results_tmp2 rfl _ _ _) rfl ?_
            have hS := HS.out
            have hE := HE.out
            rw [HI.out, HJ.out] at hS
            rw [HJ.out] at hE
            rw [So.pt_off HDK.out hS hE (by omega)]
            exact ⟨rfl, HK3.out⟩
    · have hd : decide ((i2 : Int) ≤ (j : Int)) = false := by simp; omega
      have hjl : j < i2 := by omega
      have HS := hide (HU.out.symm.trans (So.su_off (p := (fun x => Sort.ltInt x dk[a]!)) (d := dk) (i := i2) (j := j) (Or.inl (by omega))))
      clear hk
      go_wp2
      go_quiet (first | (go_at_call 51; refine Calls.quiet_of_same (less_u _ _ _)))
      go_wp2
      have HK2 := hide (HK.out.draw nq)
      clear HU HK hd
      go_loopw [11] (fun vj wr => ∃ (j' : Nat), vj = .int .i64 j' ∧ j' ≤ j ∧ i2 ≤ j' + 1 ∧ InR B w0 g n cap wr dk ∧ Hid (Sort.scanDown (fun x => !Sort.ltInt x dk[a]!) dk i2 j' = Sort.scanDown (fun x => !Sort.ltInt x dk[a]!) dk i2 j)) (fun vj _ => (numOf vj + 1 - i2).toNat)
      case atStart => exact ⟨j, rfl, Nat.le_refl _, hi2j, HK2.out, hide rfl⟩
      case round =>
        clear HK2
        obtain ⟨j2, rfl, hj2, hij2, hk, HV⟩ := hrel
        have HK := hide hk
        by_cases hle : i2 ≤ j2
        · exfalso; omega
        · have hd : decide ((i2 : Int) ≤ (j2 : Int)) = false := by simp; omega
          have hd5 : decide ((j2 : Int) < (i2 : Int)) = true := by simp; omega
          have HE := hide (HV.out.symm.trans (So.sdn_off (p := (fun x => !Sort.ltInt x dk[a]!)) (d := dk) (i := i2) (j := j2) (Or.inl (by omega))))
          have c0 := hk.cell j2 (by omega)
          have c1 := hk.cell a (by omega)
          have f0 := hk.free j2
          have f1 := hk.free a
          have j4 : (0 : Int) ≤ (j2 : Int) := by omega
          have j5 : (j2 : Int) < (n : Int) := by omega
          have s1 := (hk.set j2 dk[a]!).cell a (by omega)
          have t1 := (hk.set j2 dk[a]!).free a
          generalize (dk.setIfInBounds j2 dk[a]!)[a]! = s0 at s1
          generalize hy : dk[a]! = y at c1 s1 t1
          generalize hx : dk[j2]! = x at c0
          have HX := hide hx
          have HY := hide hy
          clear hk hx hy
          go_wp2
          go_quiet (first | (go_at_call 51; refine Calls.quiet_of_same (less_u _ _ _)))
          go_wp2
          have HK2 := hide (HK.out.draw nq)
          change Hid (InR B w0 g n cap (wr.drewN nq) dk) at HK2
          have c0' : (wr.drewN nq).cell? ⟨g, j2, none⟩ = _ := c0
          have c1' : (wr.drewN nq).cell? ⟨g, a, none⟩ = _ := c1
          have f0' : (wr.drewN nq).frozen? ⟨g, j2, none⟩ = _ := f0
          have f1' : (wr.drewN nq).frozen? ⟨g, a, none⟩ = _ := f1
          have s1' : ((wr.drewN nq).setCell ⟨g, j2, none⟩ (.int .u64 y)).cell? ⟨g, a, none⟩ = _ := s1
          have t1' : ((wr.drewN nq).setCell ⟨g, j2, none⟩ (.int .u64 y)).frozen? ⟨g, a, none⟩ = _ := t1
          clear c0 c1 f0 f1 s1 t1 HK
          generalize wr.drewN nq = W3 at *
          go_region
          have HK3 := (HK2.out.swap j2 a).draw 1
          rw [HX.out, HY.out] at HK3
          replace HK3 := hide HK3
          change Hid (InR B w0 g n cap ((W3.setCell ⟨g, j2, none⟩ (.int .u64 y)).setCell ⟨g, a, none⟩ (.int .u64 x)).drew _) at HK3
          clear c0' c1' f0' f1' s1' t1' HK2
          generalize ((W3.setCell ⟨g, j2, none⟩ (.int .u64 y)).setCell ⟨g, a, none⟩ (.int .u64 x)).drew = W4 at *
          go_wp2
          refine bodyPost_ret (results_tmp2 rfl _ _ _) rfl ?_
          have hS := HS.out
          have hE := HE.out
          rw [HI.out, HJ.out] at hS
          rw [HJ.out] at hE
          rw [So.pt_off HDK.out hS hE (by omega)]
          exact ⟨rfl, HK3.out⟩
end Go.Proofs.Ytpinhcbkfjoopaa
