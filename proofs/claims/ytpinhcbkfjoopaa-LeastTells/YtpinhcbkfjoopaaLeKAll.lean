/- Several texts in one. -/
import Derived.Test.YtpinhcbkfjoopaaLeMAll
import Derived.Test.YtpinhcbkfjoopaaSlBAll
import Derived.Deep.QuietTactic
import Derived.BigQuiet
/- What slices.Equal, sameLeast, sieves and sieved answer. -/
namespace Go.Proofs.Ytpinhcbkfjoopaa
open Go.RowKit
set_option linter.unusedVariables false
theorem lstU_one {k : Nat} {R : List Int} (h1 : P.Up R) (h2 : R.length ≤ k) (h : Int) : lstU k R [h] = P.siv k R h :=
  ((lstU_bot k R [h]).iff fun x => by simp).one ((P.Bot.self h1 h2).add h)
theorem lstU_two {k : Nat} {a : List Int} (h1 : P.Up a) (h2 : a.length ≤ k) (b : List Int) : lstU k a b = P.sivs k a b :=
  (lstU_bot k a b).one ((P.Bot.self h1 h2).merge b)
theorem Bot_one {k : Nat} {Q : Int → Prop} {R : List Int} (h : P.Bot k Q R) (x : Int) : P.Bot k (fun z => Q z ∨ z = x) (lstU k R [x]) := by rw [lstU_one h.up h.len]; exact h.add x
theorem Bot_two {k : Nat} {Q S : Int → Prop} {a b : List Int} (ha : P.Bot k Q a) (hb : P.Bot k S b) : P.Bot k (fun z => Q z ∨ S z) (lstU k a b) := by rw [lstU_two ha.up ha.len]; exact ha.both hb
theorem Bot_good {k : Nat} {Q : Int → Prop} {R : List Int} (h : P.Bot k Q R) (h2 : 2 ≤ k) (h3 : k ≤ 64) : P.LsGood ⟨k, R⟩ := ⟨by simp; omega, by simp; omega, by have := h.len; simp; omega, h.up⟩
set_option maxHeartbeats 1000000 in
/-- Two rows of the same numbers are equal. -/
theorem equalU_yes (u v : Value) (l : List Int) (w : World) (h : RowK .u64 w u l) (h' : RowK .u64 w v l) : Calls Try.prog 28 #[u, v] w fun e w' => e = .returned (.bool true) ∧ ∃ q, w' = w.drewN q := by
  obtain ⟨a, cap, rfl, ⟨hlc, hmax, hnn⟩, hcase⟩ := h
  obtain ⟨a2, cap2, rfl, ⟨hlc2, hmax2, hnn2⟩, hcase2⟩ := h'
  unfold maxLen at hmax hmax2
  have hd0 : ((l.length : Int) != (l.length : Int)) = false := by simp
  go_enter Try.func28, Try.ntmps28
  go_wp2
  go_loopw [13] (fun i wr => ∃ j : Nat, j ≤ l.length ∧ i = .int .i64 j ∧ ∃ q, wr = w.drewN q) (fun i _ => l.length - (intOf i).toNat)
  case atStart => exact ⟨0, by omega, rfl, 0, rfl⟩
  case round =>
    obtain ⟨j, hj, rfl, hq⟩ := hrel
    have HQ := hide hq
    have hcw : ∀ (p : Addr), wr.cell? p = w.cell? p := by obtain ⟨q, rfl⟩ := hq; exact fun _ => rfl
    clear hq
    by_cases hlt : j < l.length
    · rcases hcase with h | ⟨b, off, rfl, hbs, hcell⟩
      · rw [h] at hlt; simp at hlt
      rcases hcase2 with h | ⟨b2, off2, rfl, hbs2, hcell2⟩
      · rw [h] at hlt; simp at hlt
      have j0 : (0 : Int) ≤ (j : Int) := by omega
      have j1 : (j : Int) < (l.length : Int) := by omega
      have q0 := fun n => (show (wr.drewN n).cell? ⟨b, off + j, none⟩ = _ from (hcw _).trans (hcell j (by omega)))
      have q1 := fun n => (show (wr.drewN n).cell? ⟨b2, off2 + j, none⟩ = _ from (hcw _).trans (hcell2 j (by omega)))
      generalize l.getD j 0 = y at *
      have hd : (y != y) = false := by simp
      clear hcell hcell2 hcw
      go_wp2
      go_quiet (fail)
      go_wp2
      go_roundw
      case rel => exact ⟨j + 1, by omega, by go_num, dn_ex HQ.out _⟩
      case measure => simp [intOf]; omega
    · have hd2 : decide ((j : Int) < (l.length : Int)) = false := by simp; omega
      obtain rfl : j = l.length := by omega
      go_wp2
      go_ret
      exact ⟨rfl, HQ.out⟩
/-- Two values of the same sieve are the same. -/
theorem sameLeast_yes (u v : Value) (S : P.Ls) (w : World) (h : RowK .u64 w u S.h) (h' : RowK .u64 w v S.h) : Calls Try.prog 23 #[aggL u S, aggL v S] w fun e w' => e = .returned (.bool true) ∧ Below w.heap.size w w' := by
  have HB := hide (((Below.refl w.heap.size w).alloc (Nat.le_refl _) (.cells #[.int .i64 S.k, u] 24)).alloc (by simp) (.cells #[.int .i64 S.k, v] 24))
  have HE := hide (equalU_yes u v S.h _ (h.below HB.out (Nat.le_refl _)) (h'.below HB.out (Nat.le_refl _)))
  obtain ⟨a, c, rfl⟩ := h.shp
  obtain ⟨a2, c2, rfl⟩ := h'.shp
  clear h h'
  have d0 : (S.k == S.k) = true := by simp
  go_enter Try.func23, Try.ntmps23
  go_wp2_with (go_at_call 28; go_must (refine HE.out.mono ?_); rintro e w1 ⟨rfl, q, rfl⟩)
  go_ret
  exact ⟨rfl, below_dn HB.out q⟩
theorem sieves_any (w : World) : Calls Try.prog 18 #[] w fun e w' => e = .returned (.bool true) ∧ Below w.heap.size w w' := by
  have HE := hide (Empty_ok 4 w (by decide))
  go_enter Try.func18, Try.ntmps18
  go_wp2_with (go_at_call 8; go_must (refine HE.out.mono ?_); rintro e w1 ⟨rfl, hb⟩)
  go_ret
  exact ⟨rfl, hb.alloc hb.size _⟩
namespace P
/-- The numbers of the texts. -/
def hs (L : List (List Int)) : List Int := L.map fun bs => (hof 0 bs : Int)
end P
/-- How the loop of sieved stands. -/
structure SvAt (w : World) (g r k : Nat) (L : List (List Int)) (j : Nat) (wr : World) : Prop where
  box : ∃ v R, BoxL wr g v ⟨k, R⟩ ∧ OwnU wr 0 v R ∧ P.Bot k (· ∈ P.hs (L.take j)) R
  res : ∃ z sz, BoxL wr r z sz
  below : Below w.heap.size w wr
set_option maxRecDepth 100000 in
set_option maxHeartbeats 4000000 in
theorem sieved_ok (k : Nat) (v : Value) (L : List (List Int)) (w : World) (h1 : 2 ≤ k) (h2 : k ≤ 64) (hr : RowsB w v L) (hl : ∀ y ∈ L, Byt y) :
    Calls Try.prog 19 #[.int .i64 k, v] w fun e w' => ∃ v' R, e = .returned (.tuple #[aggL v' ⟨k, R⟩, .bool true]) ∧ OwnU w' 0 v' R ∧ P.Bot k (· ∈ P.hs L) R ∧ Below w.heap.size w w' := by
  obtain ⟨a, cap, rfl, ⟨hlc, hmax, hnn⟩, hcase⟩ := hr
  unfold maxLen at hmax
  have HB := hide ((Below.refl w.heap.size w).alloc (Nat.le_refl _) (.cells #[.int .i64 0, .slice none 0 0] 24))
  have HZ := hide (zero_new w)
  have HA := hide (fun v R bv bs wx (q1 : RowK .u64 wx v R) (q2 : P.LsGood ⟨k, R⟩) (q3 : RowB wx bv bs) (q4 : Byt bs) => Add_ok v bv k R bs wx q1 q2 q3 q4)
  have HE := hide (fun wx => Empty_ok (k : Int) wx (by omega))
  have HK := hide (And.intro h1 h2)
  clear h1 h2
  go_enter Try.func19, Try.ntmps19
  go_wp2_with fail
  refine (HE.out _).mono ?_
  rintro e w1 ⟨rfl, hb1⟩
  have z1 := HZ.out.below hb1
  have HAt : Hid (SvAt w w1.heap.size w.heap.size k L 0 (w1.alloc (.cells #[.int .i64 k, .slice none 0 0] 24))) := by
    have hB1 := (Below.refl w1.heap.size w1).alloc (Nat.le_refl _) (.cells #[.int .i64 k, .slice none 0 0] 24)
    exact ⟨⟨_, [], BoxL.new w1 (.slice none 0 0) ⟨k, []⟩, OwnK.nil _ _ _ _, ⟨by simp, by simp, by simp, by simp [P.hs]⟩⟩, ⟨_, _, z1.below hB1⟩, (Below.next HB.out hb1).alloc (Below.next HB.out hb1).size _⟩
  have hgr : w.heap.size < w1.heap.size := z1.lt
  clear hb1 z1 HE HZ HB
  go_upto_region 2 with fail
  generalize (w1.alloc (.cells #[.int .i64 k, .slice none 0 0] 24)) = W2 at *
  generalize w1.heap.size = g at *
  go_wp2
  go_loopw [17, 7] (fun i ev wr => ∃ j : Nat, j ≤ L.length ∧ i = .int .i64 j ∧ ev = .int .i64 0 ∧ SvAt w g w.heap.size k L j wr) (fun i _ _ => L.length - (intOf i).toNat)
  case atStart => exact ⟨0, by omega, rfl, rfl, HAt.out⟩
  case round =>
    obtain ⟨j, hj, rfl, rfl, hR⟩ := hrel
    have HR := hide hR
    obtain ⟨v, R, hbx, hown, hbot⟩ := hR.box
    obtain ⟨xt, yt, rfl⟩ := hown.shape
    obtain ⟨z, sz, hres⟩ := hR.res
    obtain ⟨f0, f1⟩ := hbx.cells
    have HBx := hide hbx
    have HOw := hide hown
    have HBo := hide hbot
    have HRs := hide hres
    have hB := hR.below
    clear hbx hown hbot
    by_cases hlt : j < L.length
    · have hd : decide ((j : Int) < (L.length : Int)) = true := by simp; omega
      rcases hcase with h | ⟨b, off, rfl, hbs, hcell⟩
      · rw [h] at hlt; simp at hlt
      obtain ⟨y, hy⟩ : ∃ x, L[j]? = some x := ⟨_, List.getElem?_eq_getElem hlt⟩
      obtain ⟨vj, q00, qr⟩ := hcell j y hy
      have q0 := (hB.cell (p := ⟨b, off + j, none⟩) hbs).trans q00
      have hyb := hl y (List.mem_of_getElem? hy)
      have hry := qr.below hB (Nat.le_refl _)
      have j0 : (0 : Int) ≤ (j : Int) := by omega
      have j1 : (j : Int) < (L.length : Int) := by omega
      have HTk : Hid (P.Bot k (· ∈ P.hs (L.take (j + 1))) (lstU k R [(P.hof 0 y : Int)])) := hide ((Bot_one HBo.out _).iff fun x => by rw [List.take_add_one, hy]; simp [P.hs])
      have HAd := hide (HA.out _ R vj y wr HOw.out.row (Bot_good HBo.out HK.out.1 HK.out.2) hry hyb)
      generalize lstU k R [(P.hof 0 y : Int)] = R2 at *
      obtain ⟨ya, yc, rfl⟩ := qr.shp
      clear hcell hR hB hy q00 qr hry hyb
      go_wp2_with fail
      refine HAd.out.mono ?_
      rintro e w3 ⟨v3, rfl, own3, p3⟩
      obtain ⟨xt3, yt3, rfl⟩ := own3.shape
      have b3 := HBx.out.below p3
      have r3 := HRs.out.below p3
      obtain ⟨c0, c1⟩ := b3.cells
      have u0 := b3.unfrozen 0; have u1 := b3.unfrozen 1
      have hfin : SvAt w g w.heap.size k L (j + 1) (setS w3 g (.slice xt3 R2.length yt3) ⟨k, R2⟩) :=
        ⟨⟨_, _, b3.all _ _, (own3.box b3 (setS_grown _ _ _ _)).base (Nat.zero_le _), HTk.out⟩, ⟨_, _, r3.other (setS_grown _ _ _ _) (by omega)⟩, Below.setS' (Below.next HR.out.below p3) (by omega) _ _⟩
      have HF := hide hfin
      clear hfin own3 HTk
      go_wp2
      go_roundw
      case rel => exact ⟨j + 1, by omega, by go_num, rfl, HF.out⟩
      case measure => simp [intOf]; omega
    · have hd : decide ((j : Int) < (L.length : Int)) = false := by simp; omega
      obtain rfl : j = L.length := by omega
      rw [List.take_length] at HBo
      obtain ⟨c0, c1⟩ := hres.cells
      have u0 := hres.unfrozen 0; have u1 := hres.unfrozen 1
      have y6 := hres.all (.slice xt R.length yt) ⟨k, R⟩
      have o6 := HOw.out.box hres (setS_grown wr w.heap.size (.slice xt R.length yt) ⟨k, R⟩)
      have b6 : Below w.heap.size w (setS wr w.heap.size (.slice xt R.length yt) ⟨k, R⟩) := Below.setS' hB (Nat.le_refl _) _ _
      obtain ⟨r0, r1⟩ := y6.cells
      clear hR hB
      go_wp2
      refine bodyPost_ret (w := setS wr w.heap.size (.slice xt R.length yt) ⟨k, R⟩) (v := .tuple #[aggL (.slice xt R.length yt) ⟨k, R⟩, .bool true]) ?_ rfl ⟨_, R, rfl, o6, HBo.out, b6⟩
      generalize setS wr w.heap.size (.slice xt R.length yt) ⟨k, R⟩ = wf at *
      simp [results, Try.results19, go_sem, r0, r1]
set_option maxRecDepth 100000 in
set_option maxHeartbeats 2000000 in
theorem sieved_bad (k : Int) (v : Value) (L : List (List Int)) (w : World) (h : ¬ (2 ≤ k ∧ k ≤ 64)) (hr : RowsB w v L) :
    Calls Try.prog 19 #[.int .i64 k, v] w fun e w' => e = .returned (.tuple #[zeroL, .bool false]) ∧ Below w.heap.size w w' := by
  obtain ⟨a, cap, rfl, ⟨hlc, hmax, hnn⟩, hcase⟩ := hr
  unfold maxLen at hmax
  have HB := hide ((Below.refl w.heap.size w).alloc (Nat.le_refl _) (.cells #[.int .i64 0, .slice none 0 0] 24))
  have HZ := hide (zero_new w)
  have HE := hide (fun wx => Empty_bad k wx h)
  clear h
  go_enter Try.func19, Try.ntmps19
  go_wp2_with fail
  refine (HE.out _).mono ?_
  rintro e w1 ⟨rfl, hb1⟩
  have z1 := HZ.out.below hb1
  have hB1 := (Below.refl w1.heap.size w1).alloc (Nat.le_refl _) (.cells #[.int .i64 0, .slice none 0 0] 24)
  have HG := hide (zero_new w1)
  have HR0 := hide (z1.below hB1)
  have HB1 := hide ((Below.next HB.out hb1).alloc (Below.next HB.out hb1).size (.cells #[.int .i64 0, .slice none 0 0] 24))
  have hgr : w.heap.size < w1.heap.size := z1.lt
  clear hb1 z1 HE HZ HB hB1
  go_upto_region 2 with fail
  generalize (w1.alloc (.cells #[.int .i64 0, .slice none 0 0] 24)) = W2 at *
  generalize w1.heap.size = g at *
  go_wp2
  go_loop [17, 7] (fun i ev => ∃ j : Nat, j ≤ L.length ∧ i = .int .i64 j ∧ ev = .int .i64 1) (fun i _ => L.length - (intOf i).toNat)
  case atStart => exact ⟨0, by omega, rfl, rfl⟩
  case round =>
    obtain ⟨j, hj, rfl, rfl⟩ := hrel
    by_cases hlt : j < L.length
    · rcases hcase with h | ⟨b, off, rfl, hbs, hcell⟩
      · rw [h] at hlt; simp at hlt
      obtain ⟨y, hy⟩ : ∃ x, L[j]? = some x := ⟨_, List.getElem?_eq_getElem hlt⟩
      obtain ⟨vj, q00, qr⟩ := hcell j y hy
      have q0 := (HB1.out.cell (p := ⟨b, off + j, none⟩) hbs).trans q00
      obtain ⟨ya, yc, rfl⟩ := qr.shp
      have j0 : (0 : Int) ≤ (j : Int) := by omega
      have j1 : (j : Int) < (L.length : Int) := by omega
      clear hcell hy q00 qr
      go_wp2
      go_round
      case rel => exact ⟨j + 1, by omega, by go_num, rfl⟩
      case measure => simp [intOf]; omega
    · have hd : decide ((j : Int) < (L.length : Int)) = false := by simp; omega
      obtain rfl : j = L.length := by omega
      obtain ⟨f0, f1⟩ := HG.out.cells
      obtain ⟨c0, c1⟩ := HR0.out.cells
      have u0 := HR0.out.unfrozen 0; have u1 := HR0.out.unfrozen 1
      have y6 := HR0.out.all (.slice none 0 0) z0
      have b6 : Below w.heap.size w (setS W2 w.heap.size (.slice none 0 0) z0) := Below.setS' HB1.out (Nat.le_refl _) _ _
      obtain ⟨r0, r1⟩ := y6.cells
      go_wp2
      refine bodyPost_ret (w := setS W2 w.heap.size (.slice none 0 0) z0) (v := .tuple #[zeroL, .bool false]) ?_ rfl ⟨rfl, b6⟩
      generalize setS W2 w.heap.size (.slice none 0 0) z0 = wf at *
      simp [z0] at r0 r1
      simp [results, Try.results19, go_sem, r0, r1]
end Go.Proofs.Ytpinhcbkfjoopaa
