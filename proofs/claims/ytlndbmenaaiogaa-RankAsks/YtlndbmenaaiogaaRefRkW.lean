/- What the reference's WeightOf answers. -/
import Derived.Test.YtlndbmenaaiogaaRankK
namespace Go.Proofs.Ytlndbmenaaiogaa
open Go.RowKit
set_option linter.unusedVariables false
theorem P.na_step {l : List Int} {k : Nat} (hk : k < l.length) (z : Int) : P.na z (l.take (k + 1)) = P.na z (l.take k) + (if l.getD k 0 ≤ z then 1 else 0) := by
  rw [List.take_add_one, List.getElem?_eq_getElem hk, Option.toList_some, P.na_app, P.na_cons, P.na_nil]
  simp [List.getD_eq_getElem?_getD, List.getElem?_eq_getElem hk]
theorem P.na_take_le (l : List Int) (k : Nat) (z : Int) : P.na z (l.take k) ≤ k := Nat.le_trans (P.na_le z _) (by simp; omega)
set_option maxHeartbeats 1000000 in
theorem weightOf_any (tv lv : Value) (s : P.Rk) (x : Int) (w : World) (hr : RkV w tv lv s) (hg : P.Good s) :
    Calls Try.prog 20 #[aggR tv lv s, .int .i64 x] w fun e w' => e = .returned (.int .i64 (P.wtR x s : Nat)) ∧ Below w.heap.size w w' := by
  have h20 := hg.2.1
  have hl64 : ∀ l ∈ s.lv, l.length ≤ 64 := fun l hl => by have := (hg.1.lv l hl).2; have := hg.1.k64; omega
  have ht64 : s.tail.length ≤ 64 := by have := hg.1.room; have := hg.1.k64; omega
  obtain ⟨al, cl, rfl, ⟨hlc, hmax⟩, hcase⟩ := hr.lv
  obtain ⟨at', ct, rfl, ⟨htc, hmt, _⟩, htcase⟩ := hr.tail
  unfold maxLen at hmax hmt
  have HB := hide ((Below.refl _ w).alloc (Nat.le_refl _) (.cells #[.int .i64 s.k, .slice at' s.tail.length ct, .slice al s.lv.length cl, .int .i64 s.n, .int .i64 s.sl] 25))
  obtain ⟨b0, b1, b2, b3, b4⟩ := box5 (w := w) (c0 := .int .i64 s.k) (c1 := .slice at' s.tail.length ct) (c2 := .slice al s.lv.length cl) (c3 := .int .i64 s.n) (c4 := .int .i64 s.sl) (t := 25)
  have hcnt : P.cnt s.lv + 64 ≤ 2 ^ s.lv.length * 64 := P.cnt_max hl64
  have hp : 2 ^ s.lv.length ≤ 2 ^ 20 := Nat.pow_le_pow_right (by omega) h20
  have HC : Hid (∀ j, P.wt x (s.lv.take j) ≤ 67108864) := fun j => by have := P.cnt_take_le s.lv j; have := P.wt_le x (s.lv.take j); omega
  have HT := hide (fun (l : List Int) (k : Nat) (hk : k < l.length) => P.na_step hk x)
  have HLe := hide (fun (l : List Int) (k : Nat) => P.na_take_le l k x)
  have HLl := hide hl64
  obtain ⟨k, t, L, n, sl⟩ := s
  simp only at *
  clear hr hg hl64 hcnt hp
  go_enter Try.func20, Try.ntmps20
  go_wp2
  generalize (w.alloc (.cells #[.int .i64 k, .slice at' t.length ct, .slice al L.length cl, .int .i64 n, .int .i64 sl] 25)) = W0 at *
  go_loop [16, 5] (fun i c => ∃ (j : Nat), j ≤ t.length ∧ i = .int .i64 j ∧ c = .int .i64 ((P.na x (t.take j) : Nat) : Int)) (fun i _ => t.length - (intOf i).toNat)
  case atStart => exact ⟨0, by omega, rfl, by simp [P.na_nil]⟩
  case round =>
    obtain ⟨j, hj, rfl, rfl⟩ := hrel
    by_cases hlt : j < t.length
    · rcases htcase with h | ⟨b, off, rfl, hbs, hcell⟩
      · rw [h] at hlt; simp at hlt
      have q0 := (HB.out.cell (p := ⟨b, off + j, none⟩) hbs).trans (hcell j hlt)
      have j0 : (0 : Int) ≤ (j : Int) := by omega
      have j1 : (j : Int) < (t.length : Int) := by omega
      have hx := HT.out t j hlt
      have hlx := HLe.out t j
      clear hcell
      generalize t.getD j 0 = y at *
      generalize P.na x (t.take j) = c at *
      have HX := hide hx
      clear hx
      by_cases h1 : y ≤ x
      · go_wp2
        go_round
        case rel => exact ⟨j + 1, by omega, by go_num, by rw [HX.out, if_pos h1]; push_cast; rfl⟩
        case measure => simp [intOf]; omega
      · have hd1 : decide (y ≤ x) = false := by simpa using h1
        go_wp2
        go_round
        case rel => exact ⟨j + 1, by omega, by go_num, by rw [HX.out, if_neg h1]; rfl⟩
        case measure => simp [intOf]; omega
    · have hd : decide ((j : Int) < (t.length : Int)) = false := by simp; omega
      obtain rfl : j = t.length := by omega
      rw [List.take_length]
      have hnt : P.na x t ≤ 64 := Nat.le_trans (P.na_le x t) ht64
      obtain ⟨T, hT⟩ : ∃ T, T = P.na x t := ⟨_, rfl⟩
      have HTT := hide hT
      rw [← hT] at hnt ⊢
      clear hT
      go_wp2
      go_loop [29, 5, 8] (fun i c d => ∃ (j : Nat), j ≤ L.length ∧ i = .int .i64 j ∧ c = .int .i64 ((T + P.wt x (L.take j) : Nat) : Int) ∧ d = .int .i64 ((2 ^ j : Nat) : Int)) (fun i _ _ => L.length - (intOf i).toNat)
      case atStart => exact ⟨0, by omega, rfl, by simp [P.wt], rfl⟩
      case round =>
        obtain ⟨j, hj, rfl, rfl, rfl⟩ := hrel
        by_cases hlt : j < L.length
        · rcases hcase with h | ⟨b, off, rfl, hbs, hcell⟩
          · rw [h] at hlt; simp at hlt
          have j0 : (0 : Int) ≤ (j : Int) := by omega
          have j1 : (j : Int) < (L.length : Int) := by omega
          obtain ⟨l, hx⟩ : ∃ x, L[j]? = some x := ⟨_, List.getElem?_eq_getElem hlt⟩
          obtain ⟨vj, g0, hrow⟩ := hcell j l hx
          have g1 := (HB.out.cell (p := ⟨b, off + j, none⟩) hbs).trans g0
          obtain ⟨ar, cr, rfl, ⟨hlr, hmr, _⟩, hrcase⟩ := hrow
          unfold maxLen at hmr
          have hl64 := HLl.out l (List.mem_of_getElem? hx)
          have HN := hide (P.wt_take hx x)
          have c0 := HC.out j
          have hp : 2 ^ j ≤ 2 ^ 20 := Nat.pow_le_pow_right (by omega) (by omega)
          have hp2 : 2 ^ (j + 1) = 2 ^ j * 2 := Nat.pow_succ 2 j
          have HP2 := hide hp2
          clear hcell g0 hx hp2
          obtain ⟨A, hA⟩ : ∃ A, A = T + P.wt x (L.take j) := ⟨_, rfl⟩
          have HA := hide hA
          have hA1 : A ≤ 67108928 := by omega
          rw [← hA]
          obtain ⟨p, hpp⟩ : ∃ p, p = 2 ^ j := ⟨_, rfl⟩
          have HPP := hide hpp
          rw [← hpp] at hp ⊢
          clear hA hpp c0
          have HM := hide (fun (c : Nat) (hc : c ≤ 64) => show p * c ≤ 67108864 from Nat.le_trans (Nat.mul_le_mul hp hc) (by decide))
          have hp' : p ≤ 1048576 := hp
          clear hp
          go_wp2
          go_loop [35, 5] (fun i c => ∃ (k m : Nat), k ≤ l.length ∧ i = .int .i64 k ∧ c = .int .i64 (m : Int) ∧ m = A + p * P.na x (l.take k)) (fun i _ => l.length - (intOf i).toNat)
          case atStart => exact ⟨0, A, by omega, rfl, rfl, by simp [P.na_nil]⟩
          case round =>
            obtain ⟨k', m, hk, rfl, rfl, hm⟩ := hrel
            have hm1 := HM.out (P.na x (l.take k')) (Nat.le_trans (HLe.out l k') (by omega))
            have hmb : m ≤ 134217792 := by omega
            have HMM := hide hm
            clear hm hm1
            by_cases hlt2 : k' < l.length
            · rcases hrcase with h | ⟨b2, off2, rfl, hbs2, hcell2⟩
              · rw [h] at hlt2; simp at hlt2
              have q0 := (HB.out.cell (p := ⟨b2, off2 + k', none⟩) hbs2).trans (hcell2 k' hlt2)
              have k0 : (0 : Int) ≤ (k' : Int) := by omega
              have k1 : (k' : Int) < (l.length : Int) := by omega
              have HX := hide (HT.out l k' hlt2)
              clear hcell2
              generalize l.getD k' 0 = y at *
              by_cases h1 : y ≤ x
              · go_wp2
                go_round
                case rel => exact ⟨k' + 1, m + p, by omega, by go_num, by push_cast; rfl, by rw [HX.out, if_pos h1, HMM.out, Nat.mul_add, Nat.mul_one, Nat.add_assoc]⟩
                case measure => simp [intOf]; omega
              · have hd1 : decide (y ≤ x) = false := by simpa using h1
                go_wp2
                go_round
                case rel => exact ⟨k' + 1, m, by omega, by go_num, rfl, by rw [HX.out, if_neg h1, HMM.out]; rfl⟩
                case measure => simp [intOf]; omega
            · have hd2 : decide ((k' : Int) < (l.length : Int)) = false := by simp; omega
              obtain rfl : k' = l.length := by omega
              go_wp2
              go_round
              case rel =>
                refine ⟨j + 1, by omega, by go_num, ?_, ?_⟩
                · rw [HN.out, ← Nat.add_assoc, ← HA.out, ← HPP.out]
                  have := HMM.out
                  rw [List.take_length] at this
                  rw [this]
                · rw [HP2.out, ← HPP.out]; push_cast; rfl
              case measure => simp [intOf]; omega
        · have hd2 : decide ((j : Int) < (L.length : Int)) = false := by simp; omega
          obtain rfl : j = L.length := by omega
          rw [List.take_length]
          have hE : T + P.wt x L = P.wtR x ⟨k, t, L, n, sl⟩ := by rw [HTT.out]; rfl
          have c0 := HC.out L.length
          rw [List.take_length] at c0
          generalize T + P.wt x L = A at *
          have HE := hide hE
          clear hE
          go_wp2
          go_ret
          exact ⟨by rw [HE.out]; rfl, HB.out⟩
end Go.Proofs.Ytlndbmenaaiogaa
