/- What Roll, Again and Join answer. -/
import Derived.Test.YtgfjhcjplhlonaaRollG
import Derived.Test.YtgfjhcjplhlonaaChunkC
namespace Go.Proofs.Ytgfjhcjplhlonaa
open Go.RowKit
set_option linter.unusedVariables false
namespace P
/-- The error of samples that are rolled up, and what comes out. -/
def roerr (l : List (Int × Int)) (w : Int) : Int := if chk l ≠ 0 then chk l else rerr (ones l) w
def roout (l : List (Int × Int)) (w : Int) : List Wn := if roerr l w = 0 then grp (beg w) (ones l) else []
def agerr (l : List Wn) (w : Int) : Int := if chkW l ≠ 0 then chkW l else rerr l w
def agout (l : List Wn) (w : Int) : List Wn := if agerr l w = 0 then grp (beg w) l else []
theorem rout_roout {l : List (Int × Int)} {w : Int} (h : chk l = 0) : rout (ones l) w = roout l w ∧ rerr (ones l) w = roerr l w := by
  have e : roerr l w = rerr (ones l) w := by unfold roerr; rw [if_neg (by omega)]
  unfold rout roout
  rw [e]
  exact ⟨rfl, rfl⟩
theorem rout_agout {l : List Wn} {w : Int} (h : chkW l = 0) : rout l w = agout l w ∧ rerr l w = agerr l w := by
  have e : agerr l w = rerr l w := by unfold agerr; rw [if_neg (by omega)]
  unfold rout agout
  rw [e]
  exact ⟨rfl, rfl⟩
theorem ones_length (l : List (Int × Int)) : (ones l).length = l.length := by simp [ones]
theorem ones_take {l : List (Int × Int)} {k : Nat} (hk : k < l.length) : ones (l.take (k + 1)) = ones (l.take k) ++ [one (l.getD k (0, 0))] := by
  have e : l.take (k + 1) = l.take k ++ [l.getD k (0, 0)] := by rw [List.take_add_one]; simp [List.getElem?_eq_getElem hk, List.getD_eq_getElem?_getD]
  rw [e]; simp only [ones, List.map_append]; rfl
end P
/-- What hands back windows and an error. -/
def WPost (w : World) (c : Int) (out : List P.Wn) (e : Ending) (w' : World) : Prop :=
  ∃ v', e = .returned (.tuple #[v', .int .i64 c]) ∧ OwnW w' w.heap.size v' out ∧ Below w.heap.size w w'
theorem gatherAll (v : Value) (l : List P.Wn) (wd : Int) (w : World) (hr : RowW w v l) (hlen : l.length ≤ 1000) : Calls Try.prog 24 #[v, .int .i64 wd] w (WPost w (P.rerr l wd) (P.rout l wd)) := by
  by_cases h : wd < 1 ∨ 1099511627776 < wd
  · exact gather_arg v l wd w hr h
  · exact gather_any v l wd w hr hlen (by omega) (by omega)
theorem wpost_bad {w w' : World} {c : Int} (hb : Below w.heap.size w w') : WPost w c [] (.returned (.tuple #[.slice none 0 0, .int .i64 c])) w' := ⟨_, rfl, OwnW.nil _ _, hb⟩
theorem again_any (v : Value) (l : List P.Wn) (wd : Int) (w : World) (hr : RowW w v l) : Calls Try.prog 15 #[v, .int .i64 wd] w (WPost w (P.agerr l wd) (P.agout l wd)) := by
  have HC := hide (checkW_any v l w hr)
  by_cases hc : P.chkW l = 0
  · rw [hc] at HC
    have HG := hide (fun w' (hb : Below w.heap.size w w') => gatherAll v l wd w' (hr.below hb (Nat.le_refl _)) (P.chkW_zero hc).1)
    rw [(P.rout_agout hc).1, (P.rout_agout hc).2] at HG
    obtain ⟨a, cap, rfl⟩ := hr.shp
    clear hr hc
    generalize P.agerr l wd = c at *
    generalize P.agout l wd = out at *
    go_enter Try.func15, Try.ntmps15
    go_wp2_with fail
    refine HC.out.mono ?_
    rintro e w1 ⟨rfl, hb⟩
    go_wp2_with fail
    refine (HG.out _ hb).mono ?_
    rintro e w2 ⟨v', rfl, hown, hb2⟩
    go_wp2
    go_ret2
    exact ⟨_, rfl, hown.base hb.size, Below.next hb hb2⟩
  · have h1 : P.agerr l wd = P.chkW l := by unfold P.agerr; rw [if_pos hc]
    have h2 : P.agout l wd = [] := by unfold P.agout; rw [h1, if_neg hc]
    rw [h1, h2]
    have ht : (P.chkW l != 0) = true := by simpa using hc
    obtain ⟨a, cap, rfl⟩ := hr.shp
    clear hr hc h1 h2
    generalize P.chkW l = c at *
    go_enter Try.func15, Try.ntmps15
    go_wp2_with fail
    refine HC.out.mono ?_
    rintro e w1 ⟨rfl, hb⟩
    go_wp2
    go_ret2
    exact wpost_bad hb
/-- How the loop of Roll stands. -/
def RolAt (w : World) (l : List (Int × Int)) (i vo : Value) (wr : World) : Prop :=
  ∃ k : Nat, k ≤ l.length ∧ i = .int .i64 k ∧ OwnW wr w.heap.size vo (P.ones (l.take k)) ∧ Below w.heap.size w wr
set_option maxHeartbeats 1000000 in
theorem roll_any (v : Value) (l : List (Int × Int)) (wd : Int) (w : World) (hr : RowS w v l) : Calls Try.prog 9 #[v, .int .i64 wd] w (WPost w (P.roerr l wd) (P.roout l wd)) := by
  have HC := hide (check_any v l w hr)
  by_cases hc : P.chk l = 0
  · rw [hc] at HC
    have hln := (P.chk_zero hc).1
    have HG := hide (fun v' w' (h : RowW w' v' (P.ones l)) => gatherAll v' (P.ones l) wd w' h (by rw [P.ones_length]; exact hln))
    rw [(P.rout_roout hc).1, (P.rout_roout hc).2] at HG
    have HA := hide alone_any
    obtain ⟨a, cap, rfl, ⟨hlc, hmax, hnn⟩, hcase⟩ := hr
    unfold maxLen at hmax
    clear hc hnn
    generalize P.roerr l wd = c at *
    generalize P.roout l wd = out at *
    go_enter Try.func9, Try.ntmps9
    go_wp2_with fail
    refine HC.out.mono ?_
    rintro e w1 ⟨rfl, hb⟩
    go_wp2_with fail
    go_loopw [17, 7] (fun i vo wr => RolAt w l i vo wr) (fun i _ _ => l.length - (intOf i).toNat)
    case atStart => exact ⟨0, by omega, rfl, OwnW.nil _ _, hb⟩
    case round =>
      obtain ⟨k, hk, rfl, hown, hB⟩ := hrel
      have hsz := hB.size
      by_cases hlt : k < l.length
      · rcases hcase with h | ⟨b, off, rfl, hbs, hcell⟩
        · rw [h] at hlt; simp at hlt
        have j0 : (0 : Int) ≤ (k : Int) := by omega
        have j1 : (k : Int) < (l.length : Int) := by omega
        obtain ⟨g0, g1⟩ := hcell k hlt
        replace g0 := (hB.cell (p := ⟨b, off + k * 2, none⟩) hbs).trans g0
        replace g1 := (hB.cell (p := ⟨b, off + k * 2 + 1, none⟩) hbs).trans g1
        have HN := hide (P.ones_take hlt)
        have hol : (P.ones (l.take k)).length ≤ 1000 := by rw [P.ones_length]; simp; omega
        generalize l.getD k (0, 0) = s at *
        obtain ⟨s0, s1⟩ := s
        simp only at g0 g1
        clear hcell
        obtain ⟨ao, co, hvo⟩ := hown.shp
        rw [hvo] at hown ⊢
        clear hvo
        have o1 := OwnX.below hown (bel_a wr (.cells #[.int .i64 s0, .int .i64 s1] 40)) (Nat.le_refl _)
        have b1 := hB.alloc hsz (.cells #[.int .i64 s0, .int .i64 s1] 40)
        go_wp2_with (first
          | (go_at_call 23; go_must (refine (HA.out _ _ _).mono ?_); rintro e w2 ⟨rfl, hb2⟩; have o2 := OwnX.below o1 hb2 (Nat.le_refl _); replace b1 := Below.next b1 hb2)
          | (at_builtin; go_must (refine wp_oneW rfl _ _ rfl w.heap.size w.heap.size w w2 _ _ (P.one (s0, s1)) _ rfl o2 b1 (Nat.le_refl _) rfl rfl (by omega) b1.size b1.size ?_); intro v3 w3 own3 hb3 _ _))
        go_roundw
        case rel => exact ⟨k + 1, by omega, by go_num, by rw [HN.out]; exact own3, hb3⟩
        case measure => simp [intOf]; omega
      · have hd : decide ((k : Int) < (l.length : Int)) = false := by simp; omega
        obtain rfl : k = l.length := by omega
        rw [List.take_length] at hown
        go_wp2_with (go_at_call 24; go_must (refine (HG.out _ _ (OwnW.row hown)).mono ?_); rintro e w2 ⟨v', rfl, hown', hb2⟩)
        go_ret2
        exact ⟨_, rfl, hown'.base hsz, Below.next hB hb2⟩
  · have h1 : P.roerr l wd = P.chk l := by unfold P.roerr; rw [if_pos hc]
    have h2 : P.roout l wd = [] := by unfold P.roout; rw [h1, if_neg hc]
    rw [h1, h2]
    have ht : (P.chk l != 0) = true := by simpa using hc
    obtain ⟨a, cap, rfl⟩ := hr.shp
    clear hr hc h1 h2
    generalize P.chk l = c at *
    go_enter Try.func9, Try.ntmps9
    go_wp2_with fail
    refine HC.out.mono ?_
    rintro e w1 ⟨rfl, hb⟩
    go_wp2
    go_ret2
    exact wpost_bad hb
end Go.Proofs.Ytgfjhcjplhlonaa
