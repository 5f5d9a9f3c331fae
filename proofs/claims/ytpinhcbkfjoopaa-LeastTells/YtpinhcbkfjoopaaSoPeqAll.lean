/- Several texts in one. -/
import Derived.Test.YtpinhcbkfjoopaaSoHeapAll
/- Numbers below 2^64: what equals the pivot, in front. -/
namespace Go.Proofs.Ytpinhcbkfjoopaa
open Go.RowKit
set_option linter.unusedVariables false
namespace So
open Go.Sort
theorem su_on {p : Int → Bool} {d : Array Int} {i j : Nat} (h : i ≤ j) (hp : p d[i]! = true) : scanUp p d j i = scanUp p d j (i + 1) := by
  conv => lhs; unfold scanUp
  rw [if_pos (by simp [h, hp])]
theorem su_off {p : Int → Bool} {d : Array Int} {i j : Nat} (h : j < i ∨ p d[i]! = false) : scanUp p d j i = i := by
  unfold scanUp
  refine if_neg ?_
  simp only [Bool.and_eq_true, decide_eq_true_eq]
  rintro ⟨h1, h2⟩
  rcases h with h | h
  · omega
  · rw [h] at h2; cases h2
theorem sdn_on {p : Int → Bool} {d : Array Int} {i j : Nat} (h : i ≤ j) (h0 : 0 < j) (hp : p d[j]! = true) : scanDown p d i j = scanDown p d i (j - 1) := by
  match j, h0 with
  | k + 1, _ =>
    conv => lhs; unfold scanDown
    rw [if_pos (by simp [h, hp])]; rfl
theorem sdn_off {p : Int → Bool} {d : Array Int} {i j : Nat} (h : j < i ∨ p d[j]! = false) : scanDown p d i j = j := by
  match j with
  | 0 => rfl
  | k + 1 =>
    unfold scanDown
    refine if_neg ?_
    simp only [Bool.and_eq_true, decide_eq_true_eq]
    rintro ⟨h1, h2⟩
    rcases h with h | h
    · omega
    · rw [h] at h2; cases h2
theorem pe_on {a i j i2 j2 : Nat} {d : Array Int} (h1 : scanUp (fun x => !ltInt d[a]! x) d j i = i2) (h2 : scanDown (fun x => ltInt d[a]! x) d i2 j = j2) (h : i2 ≤ j2) : partEqLoop ltInt a i j d = partEqLoop ltInt a (i2 + 1) (j2 - 1) (swp d i2 j2) := by
  rw [partEqLoop_eq, h1, h2, if_neg (by omega)]
theorem pe_off {a i j i2 j2 : Nat} {d : Array Int} (h1 : scanUp (fun x => !ltInt d[a]! x) d j i = i2) (h2 : scanDown (fun x => ltInt d[a]! x) d i2 j = j2) (h : j2 < i2) : partEqLoop ltInt a i j d = (i2, d) := by
  rw [partEqLoop_eq, h1, h2, if_pos h]
end So
set_option maxHeartbeats 8000000 in
set_option maxRecDepth 100000 in
theorem parteq_u {B : Nat} {w0 w : World} {g n cap : Nat} {d : Array Int} (h : InR B w0 g n cap w d) (a b pv : Nat) (ha : a ≤ pv) (hp : pv < b) (hb : b ≤ n) (hn : n ≤ 1152921504606846976) :
    Calls Try.prog 52 #[.slice (some ⟨g, 0, none⟩) n cap, .int .i64 a, .int .i64 b, .int .i64 pv] w fun e w' =>
      e = .returned (.int .i64 ((Sort.partitionEqual Sort.ltInt d a b pv).1 : Nat)) ∧ InR B w0 g n cap w' (Sort.partitionEqual Sort.ltInt d a b pv).2 := by
  have HD := hide h
  have c0 := h.cell a (by omega)
  have c1 := h.cell pv (by omega)
  have f0 := h.free a
  have f1 := h.free pv
  have j0 : (0 : Int) ≤ (a : Int) := by omega
  have j1 : (a : Int) < (n : Int) := by omega
  have j2 : (0 : Int) ≤ (pv : Int) := by omega
  have j3 : (pv : Int) < (n : Int) := by omega
  have s1 := (h.set a d[pv]!).cell pv (by omega)
  have t1 := (h.set a d[pv]!).free pv
  clear h
  generalize (d.setIfInBounds a d[pv]!)[pv]! = z at s1
  generalize hx : d[a]! = x at c0
  generalize hy : d[pv]! = y at c1 s1 t1
  have HX := hide hx
  have HY := hide hy
  clear hx hy
  go_enter Try.func52, Try.ntmps52
  go_wp2
  go_region
  have HK2 := (HD.out.swap a pv).draw 1
  rw [HX.out, HY.out] at HK2
  have HK3 := hide HK2
  clear HK2 c0 c1 f0 f1 s1 t1
  change Hid (InR B w0 g n cap ((w.setCell ⟨g, a, none⟩ (.int .u64 y)).setCell ⟨g, pv, none⟩ (.int .u64 x)).drew _) at HK3
  generalize ((w.setCell ⟨g, a, none⟩ (.int .u64 y)).setCell ⟨g, pv, none⟩ (.int .u64 x)).drew = W2 at *
  go_wp2
  go_loopw [9, 10] (fun vi vj wr => ∃ (i j : Nat) (dk : Array Int), vi = .int .i64 i ∧ vj = .int .i64 j ∧ a < i ∧ i ≤ j + 1 ∧ j < b ∧ InR B w0 g n cap wr dk ∧ Hid (Sort.partEqLoop Sort.ltInt a i j dk = Sort.partEqLoop Sort.ltInt a (a + 1) (b - 1) (Sort.swp d a pv))) (fun vi vj _ => (numOf vj + 2 - numOf vi).toNat)
  case atStart => exact ⟨a + 1, b - 1, _, by go_num, by congr 1; omega, by omega, by omega, by omega, HK3.out, hide rfl⟩
  case round =>
    clear HD HK3 HX HY
    obtain ⟨i, j, dk, rfl, rfl, hai, hij, hjb, hk, HO⟩ := hrel
    go_wp2
    go_loopw [9] (fun vi wr => ∃ (i' : Nat), vi = .int .i64 i' ∧ i ≤ i' ∧ i' ≤ j + 1 ∧ InR B w0 g n cap wr dk ∧ Hid (Sort.scanUp (fun x => !Sort.ltInt dk[a]! x) dk j i' = Sort.scanUp (fun x => !Sort.ltInt dk[a]! x) dk j i)) (fun vi _ => (j + 2 - numOf vi).toNat)
    case atStart => exact ⟨i, rfl, Nat.le_refl _, hij, hk, hide rfl⟩
    case round =>
      clear hk
      obtain ⟨i2, rfl, hi2, hi2j, hk, HU⟩ := hrel
      have HK := hide hk
      by_cases hle : i2 ≤ j
      · have hd : decide ((i2 : Int) ≤ (j : Int)) = true := by simp; omega
        have c0 := hk.cell a (by omega)
        have c1 := hk.cell i2 (by omega)
        have j4 : (0 : Int) ≤ (i2 : Int) := by omega
        have j5 : (i2 : Int) < (n : Int) := by omega
        generalize hx : dk[a]! = x at c0
        generalize hy : dk[i2]! = y at c1
        have HX := hide hx
        have HY := hide hy
        clear hx hy hk
        by_cases hlt : x < y
        · have hd3 : decide (x < y) = true := by simpa using hlt
          have HS := hide (HU.out.symm.trans (So.su_off (p := (fun x => !Sort.ltInt dk[a]! x)) (d := dk) (i := i2) (j := j) (Or.inr (by simp only [Sort.ltInt]; rw [HX.out, HY.out, hd3]; rfl))))
          have HN := hide (show dk[a]! < dk[i2]! by rw [HX.out, HY.out]; exact hlt)
          go_wp2
          go_quiet (first | (go_at_call 51; refine Calls.quiet_of_same (less_u _ _ _)))
          go_wp2
          have HK2 := hide (HK.out.draw nq)
          clear HU HX HY c0 c1 HK hle hlt hd hd3 j4 j5
          go_loopw [10] (fun vj wr => ∃ (j' : Nat), vj = .int .i64 j' ∧ j' ≤ j ∧ i2 ≤ j' + 1 ∧ InR B w0 g n cap wr dk ∧ Hid (Sort.scanDown (fun x => Sort.ltInt dk[a]! x) dk i2 j' = Sort.scanDown (fun x => Sort.ltInt dk[a]! x) dk i2 j)) (fun vj _ => (numOf vj + 1 - i2).toNat)
          case atStart => exact ⟨j, rfl, Nat.le_refl _, hi2j, HK2.out, hide rfl⟩
          case round =>
            clear HK2
            obtain ⟨j2, rfl, hj2, hij2, hk, HV⟩ := hrel
            have HK := hide hk
            by_cases hle : i2 ≤ j2
            · have hd : decide ((i2 : Int) ≤ (j2 : Int)) = true := by simp; omega
              have c0 := hk.cell a (by omega)
              have c1 := hk.cell j2 (by omega)
              have f1 := hk.free j2
              have j4 : (0 : Int) ≤ (j2 : Int) := by omega
              have j5 : (j2 : Int) < (n : Int) := by omega
              generalize hx : dk[a]! = x at c0
              generalize hy : dk[j2]! = y at c1
              have HX := hide hx
              have HY := hide hy
              clear hx hy hk
              by_cases hlt : x < y
              · have hd3 : decide (x < y) = true := by simpa using hlt
                go_wp2
                go_quiet (first | (go_at_call 51; refine Calls.quiet_of_same (less_u _ _ _)))
                go_wp2
                go_roundw
                case rel => exact ⟨j2 - 1, by congr 1; omega, by omega, by omega, HK.out.draw _, hide (by have e := (So.sdn_on (p := (fun x => Sort.ltInt dk[a]! x)) (d := dk) hle (by omega) (by simp only [Sort.ltInt]; rw [HX.out, HY.out]; exact hd3)).symm.trans HV.out; rw [HX.out] at e; exact e)⟩
                case measure => simp [numOf]; omega
              · have hd3 : decide (x < y) = false := by simpa using hlt
                have hne : i2 ≠ j2 := fun e => by have h1 := HN.out; rw [e, HX.out, HY.out] at h1; omega
                have c2 := HK.out.cell i2 (by omega)
                have f2 := HK.out.free i2
                have j6 : (0 : Int) ≤ (i2 : Int) := by omega
                have j7 : (i2 : Int) < (n : Int) := by omega
                have s1 := (HK.out.set i2 dk[j2]!).cell j2 (by omega)
                have t1 := (HK.out.set i2 dk[j2]!).free j2
                generalize (dk.setIfInBounds i2 dk[j2]!)[j2]! = s0 at s1
                rw [HY.out] at s1 t1
                generalize hz : dk[i2]! = z at c2
                have HZ := hide hz
                clear hz
                have HE := hide (So.pe_on HS.out (HV.out.symm.trans (So.sdn_off (p := (fun x => Sort.ltInt dk[a]! x)) (d := dk) (i := i2) (j := j2) (Or.inr (by simp only [Sort.ltInt]; rw [HX.out, HY.out]; exact hd3)))) hle)
                go_wp2
                go_quiet (first | (go_at_call 51; refine Calls.quiet_of_same (less_u _ _ _)))
                go_wp2
                have HK2 := hide (HK.out.draw nq)
                change Hid (InR B w0 g n cap (wr.drewN nq) dk) at HK2
                have c1' : (wr.drewN nq).cell? ⟨g, j2, none⟩ = _ := c1
                have c2' : (wr.drewN nq).cell? ⟨g, i2, none⟩ = _ := c2
                have f1' : (wr.drewN nq).frozen? ⟨g, j2, none⟩ = _ := f1
                have f2' : (wr.drewN nq).frozen? ⟨g, i2, none⟩ = _ := f2
                have s1' : ((wr.drewN nq).setCell ⟨g, i2, none⟩ (.int .u64 y)).cell? ⟨g, j2, none⟩ = _ := s1
                have t1' : ((wr.drewN nq).setCell ⟨g, i2, none⟩ (.int .u64 y)).frozen? ⟨g, j2, none⟩ = _ := t1
                clear c0 c1 c2 f1 f2 s1 t1 HK
                generalize wr.drewN nq = W3 at *
                go_region
                all_goals go_wp2
                go_roundw
                case rel =>
                  refine ⟨i2 + 1, j2 - 1, Sort.swp dk i2 j2, by go_num, by congr 1; omega, by omega, by omega, by omega, ?_, hide (by rw [← HE.out]; exact HO.out)⟩
                  rw [← HZ.out, ← HY.out]; exact (HK2.out.swap i2 j2).draw 1
                case measure => simp [numOf]; omega
            · have hd : decide ((i2 : Int) ≤ (j2 : Int)) = false := by simp; omega
              have hd5 : decide ((j2 : Int) < (i2 : Int)) = true := by simp; omega
              have HE := hide (So.pe_off HS.out (HV.out.symm.trans (So.sdn_off (p := (fun x => Sort.ltInt dk[a]! x)) (d := dk) (i := i2) (j := j2) (Or.inl (by omega)))) (by omega))
              clear hk
              go_wp2
              go_quiet (first | (go_at_call 51; refine Calls.quiet_of_same (less_u _ _ _)))
              go_wp2
              go_ret
              unfold Sort.partitionEqual; rw [← HO.out, HE.out]; exact ⟨rfl, HK.out.draw _⟩
        · have hd3 : decide (x < y) = false := by simpa using hlt
          go_wp2
          go_quiet (first | (go_at_call 51; refine Calls.quiet_of_same (less_u _ _ _)))
          go_wp2
          go_roundw
          case rel => exact ⟨i2 + 1, by go_num, by omega, by omega, HK.out.draw _, hide (by have e := (So.su_on (p := (fun x => !Sort.ltInt dk[a]! x)) (d := dk) hle (by simp only [Sort.ltInt]; rw [HX.out, HY.out, hd3]; rfl)).symm.trans HU.out; rw [HX.out] at e; exact e)⟩
          case measure => simp [numOf]; omega
      · have hd : decide ((i2 : Int) ≤ (j : Int)) = false := by simp; omega
        have HS := hide (HU.out.symm.trans (So.su_off (p := (fun x => !Sort.ltInt dk[a]! x)) (d := dk) (i := i2) (j := j) (Or.inl (by omega))))
        clear hk
        go_wp2
        go_quiet (first | (go_at_call 51; refine Calls.quiet_of_same (less_u _ _ _)))
        go_wp2
        have HK2 := hide (HK.out.draw nq)
        clear HU HK hd
        go_loopw [10] (fun vj wr => ∃ (j' : Nat), vj = .int .i64 j' ∧ j' ≤ j ∧ i2 ≤ j' + 1 ∧ InR B w0 g n cap wr dk ∧ Hid (Sort.scanDown (fun x => Sort.ltInt dk[a]! x) dk i2 j' = Sort.scanDown (fun x => Sort.ltInt dk[a]! x) dk i2 j)) (fun vj _ => (numOf vj + 1 - i2).toNat)
        case atStart => exact ⟨j, rfl, Nat.le_refl _, hi2j, HK2.out, hide rfl⟩
        case round =>
          clear HK2
          obtain ⟨j2, rfl, hj2, hij2, hk, HV⟩ := hrel
          have HK := hide hk
          by_cases hle : i2 ≤ j2
          · exfalso; omega
          · have hd : decide ((i2 : Int) ≤ (j2 : Int)) = false := by simp; omega
            have hd5 : decide ((j2 : Int) < (i2 : Int)) = true := by simp; omega
            have HE := hide (So.pe_off HS.out (HV.out.symm.trans (So.sdn_off (p := (fun x => Sort.ltInt dk[a]! x)) (d := dk) (i := i2) (j := j2) (Or.inl (by omega)))) (by omega))
            clear hk
            go_wp2
            go_quiet (first | (go_at_call 51; refine Calls.quiet_of_same (less_u _ _ _)))
            go_wp2
            go_ret
            unfold Sort.partitionEqual; rw [← HO.out, HE.out]; exact ⟨rfl, HK.out.draw _⟩
end Go.Proofs.Ytpinhcbkfjoopaa
