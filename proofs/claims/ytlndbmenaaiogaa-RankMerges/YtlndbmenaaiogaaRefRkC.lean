/- What the reference's Carried answers: a list is carried to a level, and on. -/
import Derived.Test.YtlndbmenaaiogaaRefRkD
import Derived.Test.YtlndbmenaaiogaaRefRkS
import Derived.Deep.DeepCutAuto
namespace Go.Proofs.Ytlndbmenaaiogaa
open Go.RowKit
set_option linter.unusedVariables false
/-- What is asked of a list that is carried. -/
structure CarPre (s : P.Rk) (l : List Int) (j : Nat) : Prop where
  inc : ∀ m ∈ s.lv, P.Inc m ∧ m.length ≤ 64
  li : P.Inc l ∧ l.length ≤ 64
  len : s.lv.length ≤ 22
  j22 : j ≤ 22
  sl0 : 0 ≤ s.sl
  sl : s.sl + (P.car s.lv l j).2 ≤ 4611686018427387904
/-- How Carried stands: its own levels, its two boxes. -/
structure CarW (w0 w : World) (tv lv : Value) (s : P.Rk) (lvv : Value) (L : List (List Int)) (wr : World) : Prop where
  own : OwnQ w0 wr w.heap.size lvv L
  box : BoxR wr w.heap.size tv lv s
  res : BoxR wr (w.heap.size + 1) (.slice none 0 0) (.slice none 0 0) ⟨0, [], [], 0, 0⟩
  below : Below w.heap.size w wr
theorem CarW.next {w0 w wr w' : World} {tv lv lvv : Value} {s : P.Rk} {L : List (List Int)} (h : CarW w0 w tv lv s lvv L wr) (hb : Below wr.heap.size wr w') : CarW w0 w tv lv s lvv L w' :=
  ⟨h.own.below hb (Nat.le_refl _), h.box.below hb, h.res.below hb, Below.next h.below hb⟩
def lenV : Value → Nat | .slice _ n _ => n | _ => 0
/-- What Carried answers. -/
def CarPost (w0 w : World) (tv : Value) (S : P.Rk) (e : Ending) (w' : World) : Prop := ∃ lv', e = .returned (aggR tv lv' S) ∧ RdR w0 w' tv lv' S ∧ Below w.heap.size w w'
set_option maxHeartbeats 4000000 in
set_option maxRecDepth 100000 in
theorem carried_step (w0 : World) (tv lv vl : Value) (s : P.Rk) (l : List Int) (j : Nat) (w : World) (S : P.Rk) (hb0 : Below w0.heap.size w0 w) (hr : RdR w0 w tv lv s) (hl : RdI w0 w vl l) (hp : CarPre s l j)
    (hstop : ∀ i, s.lv.getD j [] = [] → (j < s.lv.length ∧ i = 0 ∨ s.lv.length ≤ j ∧ s.lv.length + i = j + 1) → S = ⟨s.k, s.tail, (s.lv ++ List.replicate i []).set j l, s.n, s.sl⟩)
    (hgo : ∀ m, s.lv[j]? = some m → m ≠ [] → s.sl + ((2 ^ j : Nat) : Int) ≤ 4611686018427387904 ∧ S.tail = s.tail ∧ ∀ (lv5 vh : Value) (w5 : World), Below w0.heap.size w0 w5 → RdR w0 w5 tv lv5 ⟨s.k, s.tail, s.lv.set j [], s.n, s.sl + ((2 ^ j : Nat) : Int)⟩ → RdI w0 w5 vh (P.halve m l) →
      Calls Try.prog 36 #[aggR tv lv5 ⟨s.k, s.tail, s.lv.set j [], s.n, s.sl + ((2 ^ j : Nat) : Int)⟩, vh, .int .i64 ((j : Int) + 1)] w5 (CarPost w0 w5 tv S)) :
    Calls Try.prog 36 #[aggR tv lv s, vl, .int .i64 j] w (CarPost w0 w tv S) := by
  have HIns := hide (fun v l x w h hi hl => inserted_any v l x w h hi hl)
  have HB0 := hide hb0
  have hw0 := hb0.size
  obtain ⟨at', ct, rfl⟩ := hr.tail.shape
  obtain ⟨al, cl, rfl⟩ := hr.lv.shape
  obtain ⟨av, cv, rfl⟩ := hl.shape
  have hB : Below w.heap.size w ((w.alloc (.cells #[.int .i64 s.k, .slice at' s.tail.length ct, .slice al s.lv.length cl, .int .i64 s.n, .int .i64 s.sl] 25)).alloc (.cells #[.int .i64 0, .slice none 0 0, .slice none 0 0, .int .i64 0, .int .i64 0] 25)) := ((Below.refl _ w).alloc (Nat.le_refl _) _).alloc (by simp) _
  have hX1 : BoxR ((w.alloc (.cells #[.int .i64 s.k, .slice at' s.tail.length ct, .slice al s.lv.length cl, .int .i64 s.n, .int .i64 s.sl] 25)).alloc (.cells #[.int .i64 0, .slice none 0 0, .slice none 0 0, .int .i64 0, .int .i64 0] 25)) w.heap.size (.slice at' s.tail.length ct) (.slice al s.lv.length cl) s :=
    BoxR.below (BoxR.new w _ _ s) ((Below.refl _ _).alloc (Nat.le_refl _) _)
  have hX2 := zero_box w (.cells #[.int .i64 s.k, .slice at' s.tail.length ct, .slice al s.lv.length cl, .int .i64 s.n, .int .i64 s.sl] 25)
  have HLv := hide (hr.lv.below hB (Nat.le_refl _))
  have HLr := hide hl
  have HTl := hide hr.tail
  have HBw := hide hB
  have HX1 := hide hX1
  have HX2 := hide hX2
  obtain ⟨b0, b1, b2, b3, b4⟩ := hX1.cells
  have hlen := hp.len
  have hsz0 := hB.size
  have hj22 := hp.j22
  have HP := hide hp
  have HStop := hide hstop
  have HGo := hide hgo
  clear hr hl hB hX1 hX2 hp hstop hgo hb0
  go_enter Try.func36, Try.ntmps36
  go_wp2_with (at_builtin; go_must (refine wp_appQ rfl _ _ rfl w.heap.size w0 _ _ s.lv HLv.out (HB0.out.trans (HBw.out.mono hw0)) rfl rfl (by omega) hsz0 ?_); intro v2 w2 own2 hg2; obtain ⟨a2, c2, rfl, _, _, _⟩ := own2.shp)
  have HC : Hid (CarW w0 w (.slice at' s.tail.length ct) (.slice al s.lv.length cl) s (.slice a2 s.lv.length c2) s.lv w2) := ⟨own2, HX1.out.grown hg2 (by simp), HX2.out.grown hg2 (by simp), HBw.out.grown hg2 hsz0 (fun k hk => by simp at hk)⟩
  clear own2 hg2 b0 b1 b2 b3 b4 HX1 HX2 hsz0 HLv HBw
  go_loopw [7] (fun lvv wr => ∃ i : Nat, CarW w0 w (.slice at' s.tail.length ct) (.slice al s.lv.length cl) s lvv (s.lv ++ List.replicate i []) wr ∧ (i = 0 ∨ s.lv.length + i ≤ j + 1)) (fun lvv _ => j + 1 - lenV lvv)
  case atStart => exact ⟨0, by simpa using HC.out, .inl rfl⟩
  case round =>
    clear HC
    obtain ⟨i, hC, hi⟩ := hrel
    obtain ⟨aL, cL, rfl, cl1, cl2, hcs⟩ := hC.own.shp
    obtain ⟨n, hn⟩ : ∃ n, n = (s.lv ++ List.replicate i []).length := ⟨_, rfl⟩
    have hn' : n = s.lv.length + i := by rw [hn]; simp
    rw [← hn] at hC cl1 ⊢
    unfold maxLen at cl2
    have hsz := hC.below.size
    by_cases hle : n ≤ j
    · have d0 : decide ((n : Int) ≤ (j : Int)) = true := by simp; omega
      obtain ⟨us', hu1, hu2, hu3⟩ := hC.own
      have HU := hide hu2
      have HU3 := hide hu3
      have HC := hide hC
      have hul' : us'.length = n := by rw [hu1, hn]
      have HI := hide hn'
      clear hu2 hu3 hC hcs hn hn'
      go_wp2_with (at_builtin; go_must (refine wp_app1L rfl _ _ rfl w.heap.size _ _ us' _ rfl HU.out rfl rfl (by omega) hsz ?_); intro v4 w4 own4 hg4; have hv4 : lenV v4 = us'.length + 1 := by (obtain ⟨a, c, e, _⟩ := OwnL.shp own4; rw [e]; simp [lenV]))
      go_roundw
      case rel =>
        refine ⟨i + 1, ⟨?_, HC.out.box.grown hg4 (HC.out.box.neL HU.out), HC.out.res.grown hg4 (HC.out.res.neL HU.out), HC.out.below.grown hg4 hsz (fun k hk => (World.ownsRow.lt HU.out k hk).1)⟩, .inr (by have := HI.out; omega)⟩
        have := OwnQ.push hu1 HU.out HU3.out own4 hg4
        rw [List.append_assoc, ← List.replicate_succ'] at this
        exact this
      case measure => rw [hv4]; simp only [lenV]; omega
    · have d0 : decide ((n : Int) ≤ (j : Int)) = false := by simp; omega
      have d0n : decide (n ≤ j) = false := by simp; omega
      have hpos : 0 < (s.lv ++ List.replicate i []).length := by omega
      rcases hcs with h | ⟨gl, rfl, hgl, hgs⟩
      · rw [h] at hpos; simp at hpos
      have j0 : (0 : Int) ≤ (j : Int) := by omega
      have j1 : (j : Int) < (n : Int) := by omega
      have hcond : j < s.lv.length ∧ i = 0 ∨ s.lv.length ≤ j ∧ s.lv.length + i = j + 1 := by omega
      have hne1 := hC.own.neBox hC.box
      have hne2 := hC.own.neBox hC.res
      by_cases hm : s.lv.getD j [] = []
      · have hS := HStop.out i hm hcond
        have hLj : (s.lv ++ List.replicate i [])[j]? = some [] := by
          rcases hcond with ⟨h1, _⟩ | ⟨h1, h2⟩
          · rw [List.getElem?_append_left h1, List.getElem?_eq_getElem h1]
            simpa [List.getD_eq_getElem?_getD, List.getElem?_eq_getElem h1] using hm
          · rw [List.getElem?_append_right h1, List.getElem?_replicate, if_pos (by omega)]
        obtain ⟨u, hu, hrowu⟩ := hC.own.level hLj
        obtain ⟨au, cu, rfl⟩ := hrowu.shape
        rw [List.length_nil] at hu
        have hfz := hC.own.unfrozen j
        have hTl2 : RdI w0 (wr.setCell ⟨gl, j, none⟩ (.slice av l.length cv)) (.slice at' s.tail.length ct) s.tail := (HTl.out.below hC.below (Nat.le_refl _)).level hC.own
        have HX : CarW w0 w (.slice at' s.tail.length ct) (.slice al s.lv.length cl) s (.slice (some ⟨gl, 0, none⟩) n cL) ((s.lv ++ List.replicate i []).set j l) (wr.setCell ⟨gl, j, none⟩ (.slice av l.length cv)) :=
          ⟨hC.own.set (HLr.out.below hC.below (Nat.le_refl _)), hC.box.grown (setCell_grown _ _ _ _) (by simpa using hne1), hC.res.grown (setCell_grown _ _ _ _) (by simpa using hne2), hC.below.setCell hgl _⟩
        have HTl2 := hide hTl2
        clear hC hm hcond hLj hrowu hpos hn hn' hi HGo HStop HIns hle hTl2
        go_upto_region 6 with fail
        generalize wr.setCell ⟨gl, j, none⟩ (.slice av l.length cv) = X at *
        have HY : CarW w0 w (.slice at' s.tail.length ct) (.slice (some ⟨gl, 0, none⟩) n cL) ⟨s.k, s.tail, (s.lv ++ List.replicate i []).set j l, s.n, s.sl⟩ (.slice (some ⟨gl, 0, none⟩) n cL) ((s.lv ++ List.replicate i []).set j l) (X.setCell ⟨w.heap.size, 2, none⟩ (.slice (some ⟨gl, 0, none⟩) n cL)) :=
          ⟨HX.own.box HX.box 2 _, HX.box.levels _ _, HX.res.grown (setCell_grown _ _ _ _) (by simp), HX.below.setCell (Nat.le_refl _) _⟩
        have hTl3 : RdI w0 (X.setCell ⟨w.heap.size, 2, none⟩ (.slice (some ⟨gl, 0, none⟩) n cL)) (.slice at' s.tail.length ct) s.tail := HTl2.out.keepT (setCell_grown _ _ _ _) HX.box (by decide)
        obtain ⟨x0, x1, x2, x3, x4⟩ := HX.box.cells
        have x5 := HX.box.unfrozen 2
        have hSl : (s.lv ++ List.replicate i []).set j l = S.lv := by rw [hS]
        have hSt : s.tail = S.tail := by rw [hS]
        rw [← hS, hSl] at HY
        have hRd : RdR w0 (X.setCell ⟨w.heap.size, 2, none⟩ (.slice (some ⟨gl, 0, none⟩) n cL)) (.slice at' s.tail.length ct) (.slice (some ⟨gl, 0, none⟩) n cL) S := ⟨by rw [← hSt]; exact hTl3, .inr (HY.own.base hw0)⟩
        have HY1 := hide HY.box
        have HY2 := hide HY.res
        have HY3 := hide HY.below
        have HRd := hide hRd
        clear hu hfz HX HY hTl3 hRd hSl hS HTl2 hSt
        go_upto_region 7 with fail
        generalize X.setCell ⟨w.heap.size, 2, none⟩ (.slice (some ⟨gl, 0, none⟩) n cL) = Y at *
        clear x0 x1 x2 x3 x4 x5
        obtain ⟨y0, y1, y2, y3, y4⟩ := HY1.out.cells
        obtain ⟨z0, z1, z2, z3, z4⟩ := HY2.out.cells
        have t0 := HY2.out.unfrozen 0
        have t1 := HY2.out.unfrozen 1
        have t2 := HY2.out.unfrozen 2
        have t3 := HY2.out.unfrozen 3
        have t4 := HY2.out.unfrozen 4
        go_wp2
        obtain ⟨r0, r1, r2, r3, r4⟩ := (HY2.out.all (.slice at' s.tail.length ct) (.slice (some ⟨gl, 0, none⟩) n cL) S).cells
        refine bodyPost_ret (w := setR Y (w.heap.size + 1) (.slice at' s.tail.length ct) (.slice (some ⟨gl, 0, none⟩) n cL) S) (v := aggR (.slice at' s.tail.length ct) (.slice (some ⟨gl, 0, none⟩) n cL) S) ?_ rfl ⟨_, rfl, HRd.out.setR' HY2.out, Below.setR' HY3.out (by omega) _ _ _⟩
        generalize setR Y (w.heap.size + 1) (.slice at' s.tail.length ct) (.slice (some ⟨gl, 0, none⟩) n cL) S = wf at *
        simp [results, Try.results36, go_sem, r0, r1, r2, r3, r4]
      · have hjl : j < s.lv.length := by
          rcases hcond with ⟨h1, _⟩ | ⟨h1, _⟩
          · exact h1
          · exact absurd (by simp [List.getD_eq_getElem?_getD, List.getElem?_eq_none h1]) hm
        obtain rfl : i = 0 := by omega
        rw [List.replicate_zero, List.append_nil] at hC
        obtain ⟨m, hmj⟩ : ∃ m, s.lv[j]? = some m := ⟨_, List.getElem?_eq_getElem hjl⟩
        have hmne : m ≠ [] := fun e => hm (by rw [List.getD_eq_getElem?_getD, hmj, e]; rfl)
        obtain ⟨hsl, hSt, hrec⟩ := HGo.out m hmj hmne
        obtain ⟨hminc, hm64⟩ := HP.out.inc m (List.mem_of_getElem? hmj)
        have hl64 := HP.out.li.2
        have hsl0 := HP.out.sl0
        have hbw : Below w0.heap.size w0 wr := HB0.out.trans (hC.below.mono hw0)
        obtain ⟨u, hu, hrowu⟩ := hC.own.level hmj
        have hur := hrowu.row hbw
        obtain ⟨au, cu, rfl⟩ := hrowu.shape
        have hmpos : 0 < m.length := List.length_pos_iff.2 hmne
        have e0 : ((m.length : Int) == 0) = false := by rw [beq_eq_false_iff_ne]; omega
        have HRec := hide hrec
        have HSt := hide hSt
        have HMj := hide hmj
        have HMi := hide hminc
        have HC := hide hC
        have HUr := hide hur
        have HBW := hide hbw
        have hlr : RowK .i64 wr (.slice av l.length cv) l := (HLr.out.below hC.below (Nat.le_refl _)).row hbw
        have HLw := hide hlr
        have hwr := hbw.size
        clear hrec hSt hminc hC hur hrowu hlr hbw hcond hm hmne hmj hn hn' hi hpos HStop HGo hle
        go_wp2
        go_loopw [44, 8] (fun i vb wr2 => ∃ k : Nat, k ≤ l.length ∧ i = .int .i64 k ∧ RowK .i64 wr2 vb (P.srt (m ++ l.take k)) ∧ Below wr.heap.size wr wr2) (fun i _ _ => l.length - (intOf i).toNat)
        case atStart => exact ⟨0, by omega, rfl, by rw [List.take_zero, List.append_nil, P.srt_self HMi.out]; exact HUr.out, Below.refl _ _⟩
        case round =>
          rename_i wr2
          obtain ⟨k, hk, rfl, hrowb, hB⟩ := hrel
          by_cases hlt : k < l.length
          · obtain ⟨a', c', e', _, hcase⟩ := HLw.out
            simp only [Value.slice.injEq] at e'
            obtain ⟨e1, _, e2⟩ := e'
            subst e1 e2
            rcases hcase with h | ⟨b', off, rfl, hbs, hcell⟩
            · rw [h] at hlt; simp at hlt
            have k0 : (0 : Int) ≤ (k : Int) := by omega
            have k1 : (k : Int) < (l.length : Int) := by omega
            have q0 := (hB.cell (p := ⟨b', off + k, none⟩) hbs).trans (hcell k hlt)
            have HI := hide (HIns.out _ _ (l.getD k 0) _ hrowb (P.srt_inc _) (by rw [P.srt_len]; simp; omega))
            rw [P.srt_step m l hlt] at HI
            generalize l.getD k 0 = y at *
            have HB2 := hide hB
            clear hcell hrowb hB
            go_wp2_with (go_at_call 35; go_must (refine HI.out.mono ?_); rintro e w5 ⟨v5, rfl, own5, hb5⟩)
            go_roundw
            case rel => exact ⟨k + 1, by omega, by go_num, OwnK.row own5, Below.next HB2.out hb5⟩
            case measure => simp [intOf]; omega
          · have hd2 : decide ((k : Int) < (l.length : Int)) = false := by simp; omega
            have hd2n : decide (k < l.length) = false := by simp; omega
            obtain rfl : k = l.length := by omega
            rw [List.take_length] at hrowb
            have HC3 := hide (HC.out.next hB)
            have HF : Hid (P.halve m l = P.odds (P.srt (m ++ l))) := rfl
            have hTl : (P.srt (m ++ l)).length ≤ 128 := by rw [P.srt_len, List.length_append]; omega
            have HBr := hide (Below.next HBW.out (hB.mono (Nat.le_refl _)))
            clear HC HUr HLw HIns HBW hB
            generalize P.srt (m ++ l) = T at *
            obtain ⟨aT, cT, rfl, ⟨t1, t2, t3⟩, hcase⟩ := hrowb
            unfold maxLen at t2
            clear t3
            rename World => W2
            have hW2 := HBr.out.size
            go_wp2
            go_loopw [54, 11] (fun i vs wr3 => ∃ (k : Nat) (v : Value), k ≤ T.length ∧ i = .int .i64 k ∧ v = vs ∧ OwnI wr3 W2.heap.size v (P.odds (T.take k)) ∧ Below W2.heap.size W2 wr3) (fun i _ _ => T.length - (intOf i).toNat)
            case atStart => exact ⟨0, _, by omega, rfl, rfl, OwnK.nil _ _ _ _, Below.refl _ _⟩
            case round =>
              obtain ⟨k, vh, hk, rfl, rfl, hown, hB⟩ := hrel
              by_cases hlt : k < T.length
              · rcases hcase with h | ⟨b', off, rfl, hbs, hcell⟩
                · rw [h] at hlt; simp at hlt
                have k0 : (0 : Int) ≤ (k : Int) := by omega
                have k1 : (k : Int) < (T.length : Int) := by omega
                have q0 := (hB.cell (p := ⟨b', off + k, none⟩) hbs).trans (hcell k hlt)
                have HN := hide (P.odds_next T hlt)
                have hol : (P.odds (T.take k)).length ≤ 128 := by rw [P.odds_len, List.length_take]; omega
                have hszr := hB.size
                generalize T.getD k 0 = y at *
                generalize P.odds (T.take k) = acc at *
                obtain ⟨ah, ch, rfl⟩ := OwnK.shape hown
                have HO := hide hown
                have HBo := hide hB
                clear hcell hown hB HC3 HBr
                by_cases ho : k % 2 = 1
                · have e1 : ((k : Int).tmod 2 == 1) = true := by rw [beq_iff_eq, Int.tmod_eq_emod_of_nonneg k0]; omega
                  have e2 : ((k : Int) % 2 == 1) = true := by rw [beq_iff_eq]; omega
                  rw [if_pos ho] at HN
                  clear ho
                  go_wp2_with (at_builtin; go_must (refine wp_app1K rfl _ _ 22 2 .i64 8 rfl Try.underlying22 Try.info2 (by omega) W2.heap.size W2.heap.size W2 _ _ acc y HO.out HBo.out (Nat.le_refl _) rfl rfl (by omega) hszr ?_); intro v5 w5 own5 hb5 _ _)
                  go_roundw
                  case rel => exact ⟨k + 1, _, by omega, by go_num, rfl, by rw [HN.out]; exact own5, hb5⟩
                  case measure => simp [intOf]; omega
                · have e1 : ((k : Int).tmod 2 == 1) = false := by rw [beq_eq_false_iff_ne, Int.tmod_eq_emod_of_nonneg k0]; omega
                  have e2 : ((k : Int) % 2 == 1) = false := by rw [beq_eq_false_iff_ne]; omega
                  rw [if_neg ho, List.append_nil] at HN
                  clear ho
                  go_wp2
                  go_roundw
                  case rel => exact ⟨k + 1, _, by omega, by go_num, rfl, by rw [HN.out]; exact HO.out, HBo.out⟩
                  case measure => simp [intOf]; omega
              · have hd3 : decide ((k : Int) < (T.length : Int)) = false := by simp; omega
                have hd3n : decide (k < T.length) = false := by simp; omega
                obtain rfl : k = T.length := by omega
                rw [List.take_length, ← HF.out] at hown
                have hC4 := HC3.out.next hB
                have hb0w : Below w0.heap.size w0 wr := HBr.out.trans (hB.mono hW2)
                obtain ⟨u4, hu4, hr4⟩ := hC4.own.level HMj.out
                obtain ⟨au4, cu4, rfl⟩ := hr4.shape
                have hfz := hC4.own.unfrozen j
                have HhX : RdI w0 (wr.setCell ⟨gl, j, none⟩ (.slice none 0 0)) vh (P.halve m l) := RdI.level (.inr (OwnK.base hown hW2)) hC4.own
                have HtX : RdI w0 (wr.setCell ⟨gl, j, none⟩ (.slice none 0 0)) (.slice at' s.tail.length ct) s.tail := (HTl.out.below hC4.below (Nat.le_refl _)).level hC4.own
                have HX : CarW w0 w (.slice at' s.tail.length ct) (.slice al s.lv.length cl) s (.slice (some ⟨gl, 0, none⟩) n cL) (s.lv.set j []) (wr.setCell ⟨gl, j, none⟩ (.slice none 0 0)) :=
                  ⟨hC4.own.set (RdI.nil _ _), hC4.box.grown (setCell_grown _ _ _ _) (by simpa using hne1), hC4.res.grown (setCell_grown _ _ _ _) (by simpa using hne2), hC4.below.setCell hgl _⟩
                obtain ⟨ah, ch, hvh⟩ := OwnK.shape hown
                have HVH := hide hvh
                clear hC4 hB hown hr4 HC3 HBr hcase HF hvh hb0w
                go_upto_region 22 with fail
                generalize wr.setCell ⟨gl, j, none⟩ (.slice none 0 0) = X at *
                have HY : CarW w0 w (.slice at' s.tail.length ct) (.slice (some ⟨gl, 0, none⟩) n cL) ⟨s.k, s.tail, s.lv.set j [], s.n, s.sl⟩ (.slice (some ⟨gl, 0, none⟩) n cL) (s.lv.set j []) (X.setCell ⟨w.heap.size, 2, none⟩ (.slice (some ⟨gl, 0, none⟩) n cL)) :=
                  ⟨HX.own.box HX.box 2 _, HX.box.levels _ _, HX.res.grown (setCell_grown _ _ _ _) (by simp), HX.below.setCell (Nat.le_refl _) _⟩
                have HhY : RdI w0 (X.setCell ⟨w.heap.size, 2, none⟩ (.slice (some ⟨gl, 0, none⟩) n cL)) vh (P.halve m l) := HhX.keepT (setCell_grown _ _ _ _) HX.box (by decide)
                have HtY : RdI w0 (X.setCell ⟨w.heap.size, 2, none⟩ (.slice (some ⟨gl, 0, none⟩) n cL)) (.slice at' s.tail.length ct) s.tail := HtX.keepT (setCell_grown _ _ _ _) HX.box (by decide)
                obtain ⟨x0, x1, x2, x3, x4⟩ := HX.box.cells
                have x5 := HX.box.unfrozen 2
                have HYh := hide HY
                have HhYh := hide HhY
                have HtYh := hide HtY
                clear HX HhX HtX hu4 hfz HY HhY HtY
                go_upto_region 23 with fail
                generalize X.setCell ⟨w.heap.size, 2, none⟩ (.slice (some ⟨gl, 0, none⟩) n cL) = Y at *
                clear x0 x1 x2 x3 x4 x5
                go_wp2
                go_loop [73, 14] (fun i b => ∃ k : Nat, k ≤ j ∧ i = .int .i64 k ∧ b = .int .i64 ((2 ^ k : Nat) : Int)) (fun i _ => j - (intOf i).toNat)
                case atStart => exact ⟨0, by omega, rfl, rfl⟩
                case round =>
                  obtain ⟨k, hk, rfl, rfl⟩ := hrel
                  by_cases hlt : k < j
                  · have k1 : (k : Int) < (j : Int) := by omega
                    have hp : 2 ^ k ≤ 2 ^ 22 := Nat.pow_le_pow_right (by omega) (by omega)
                    have HP2 : Hid (2 ^ (k + 1) = 2 ^ k * 2) := Nat.pow_succ 2 k
                    generalize 2 ^ k = p at *
                    have hp' : p ≤ 4194304 := hp
                    clear hp
                    go_wp2
                    go_round
                    case rel => exact ⟨k + 1, by omega, by go_num, by rw [HP2.out]; push_cast; rfl⟩
                    case measure => simp [intOf]; omega
                  · have hd4 : decide ((k : Int) < (j : Int)) = false := by simp; omega
                    have hd4n : decide (k < j) = false := by simp; omega
                    obtain rfl : k = j := by omega
                    have hz0 : (0 : Int) ≤ ((2 ^ k : Nat) : Int) := Int.natCast_nonneg _
                    generalize ((2 ^ k : Nat) : Int) = z at *
                    obtain ⟨y0, y1, y2, y3, y4⟩ := HYh.out.box.cells
                    have y5 := HYh.out.box.unfrozen 4
                    go_upto_region 29 with fail
                    have HZb : BoxR (Y.setCell ⟨w.heap.size, 4, none⟩ (.int .i64 (s.sl + z))) w.heap.size (.slice at' s.tail.length ct) (.slice (some ⟨gl, 0, none⟩) n cL) ⟨s.k, s.tail, s.lv.set k [], s.n, s.sl + z⟩ := HYh.out.box.slack (s.sl + z)
                    have HZr : BoxR (Y.setCell ⟨w.heap.size, 4, none⟩ (.int .i64 (s.sl + z))) (w.heap.size + 1) (.slice none 0 0) (.slice none 0 0) ⟨0, [], [], 0, 0⟩ := HYh.out.res.grown (setCell_grown _ _ _ _) (by simp)
                    have HZd : RdR w0 (Y.setCell ⟨w.heap.size, 4, none⟩ (.int .i64 (s.sl + z))) (.slice at' s.tail.length ct) (.slice (some ⟨gl, 0, none⟩) n cL) ⟨s.k, s.tail, s.lv.set k [], s.n, s.sl + z⟩ := ⟨HtYh.out.keepT (setCell_grown _ _ _ _) HYh.out.box (by decide), .inr ((HYh.out.own.box HYh.out.box 4 _).base hw0)⟩
                    have HZh : RdI w0 (Y.setCell ⟨w.heap.size, 4, none⟩ (.int .i64 (s.sl + z))) vh (P.halve m l) := HhYh.out.keepT (setCell_grown _ _ _ _) HYh.out.box (by decide)
                    have HZw : Below w.heap.size w (Y.setCell ⟨w.heap.size, 4, none⟩ (.int .i64 (s.sl + z))) := HYh.out.below.setCell (Nat.le_refl _) _
                    have HZ0 : Below w0.heap.size w0 (Y.setCell ⟨w.heap.size, 4, none⟩ (.int .i64 (s.sl + z))) := HB0.out.trans (HZw.mono hw0)
                    have HR := hide (HRec.out _ _ _ HZ0 HZd HZh)
                    obtain ⟨z0, z1, z2, z3, z4⟩ := HZb.cells
                    have HZr' := hide HZr
                    have HZw' := hide HZw
                    clear HZb HZr HZd HZh HZw HZ0 y0 y1 y2 y3 y4 y5 HYh HhYh HtYh HRec
                    generalize Y.setCell ⟨w.heap.size, 4, none⟩ (.int .i64 (s.sl + z)) = Z at *
                    simp only at z0 z3 z4
                    go_wp2_with (go_at_call 36; go_must (refine HR.out.mono ?_); rintro e w7 ⟨lv7, rfl, hrd7, hb7⟩; obtain ⟨a7, c7, rfl⟩ := hrd7.lv.shape; have r7 := HZr'.out.below hb7; obtain ⟨f0, f1, f2, f3, f4⟩ := r7.cells; have g0 := r7.unfrozen 0; have g1 := r7.unfrozen 1; have g2 := r7.unfrozen 2; have g3 := r7.unfrozen 3; have g4 := r7.unfrozen 4)
                    obtain ⟨r0, r1, r2, r3, r4⟩ := (r7.all (.slice at' s.tail.length ct) (.slice a7 S.lv.length c7) S).cells
                    refine bodyPost_ret (w := setR w7 (w.heap.size + 1) (.slice at' s.tail.length ct) (.slice a7 S.lv.length c7) S) (v := aggR (.slice at' s.tail.length ct) (.slice a7 S.lv.length c7) S) ?_ rfl ⟨_, rfl, hrd7.setR' r7, Below.setR' (Below.next HZw'.out hb7) (by omega) _ _ _⟩
                    generalize setR w7 (w.heap.size + 1) (.slice at' s.tail.length ct) (.slice a7 S.lv.length c7) S = wf at *
                    simp [results, Try.results36, go_sem, r0, r1, r2, r3, r4]
/-- .. whatever is carried. -/
theorem carried_any (n : Nat) (w0 : World) (tv : Value) : ∀ (lv vl : Value) (s : P.Rk) (l : List Int) (j : Nat) (w : World), s.lv.length ≤ j + n → Below w0.heap.size w0 w → RdR w0 w tv lv s → RdI w0 w vl l → CarPre s l j →
    Calls Try.prog 36 #[aggR tv lv s, vl, .int .i64 j] w (CarPost w0 w tv ⟨s.k, s.tail, (P.car s.lv l j).1, s.n, s.sl + (P.car s.lv l j).2⟩) := by
  have stop : ∀ (s : P.Rk) (l : List Int) (j i : Nat), s.lv.getD j [] = [] → (j < s.lv.length ∧ i = 0 ∨ s.lv.length ≤ j ∧ s.lv.length + i = j + 1) → (⟨s.k, s.tail, (P.car s.lv l j).1, s.n, s.sl + (P.car s.lv l j).2⟩ : P.Rk) = ⟨s.k, s.tail, (s.lv ++ List.replicate i []).set j l, s.n, s.sl⟩ := by
    intro s l j i h hi
    obtain ⟨h1, h2⟩ := P.car_stop j s.lv l i h hi
    rw [h1, h2]; simp
  induction n with
  | zero =>
    intro lv vl s l j w hn hb hr hl hp
    refine carried_step w0 tv lv vl s l j w _ hb hr hl hp (fun i h hi => stop s l j i h hi) (fun m hm _ => ?_)
    rw [List.getElem?_eq_none (by omega)] at hm; cases hm
  | succ n ih =>
    intro lv vl s l j w hn hb hr hl hp
    refine carried_step w0 tv lv vl s l j w _ hb hr hl hp (fun i h hi => stop s l j i h hi) (fun m hm hne => ?_)
    have hjl : j < s.lv.length := by
      rcases Nat.lt_or_ge j s.lv.length with h | h
      · exact h
      · rw [List.getElem?_eq_none h] at hm; cases hm
    obtain ⟨y, r, rfl⟩ : ∃ y r, m = y :: r := by
      cases m with
      | nil => exact absurd rfl hne
      | cons y r => exact ⟨y, r, rfl⟩
    have hcg := P.car_go j s.lv l y r hm
    have hsl := hp.sl
    rw [hcg] at hsl
    simp only at hsl
    have hlen := hp.len
    obtain ⟨hmi, hm64⟩ := hp.inc _ (List.mem_of_getElem? hm)
    have hl64 := hp.li.2
    have hsl0 := hp.sl0
    have hz : (0 : Int) ≤ ((2 ^ j : Nat) : Int) := Int.natCast_nonneg _
    have hz2 := P.car_slack_mono (s.lv.set j []) (P.halve (y :: r) l) (j + 1)
    refine ⟨by push_cast at hsl ⊢; omega, rfl, fun lv5 vh w5 hb5 hr5 hh5 => ?_⟩
    have hp5 : CarPre ⟨s.k, s.tail, s.lv.set j [], s.n, s.sl + ((2 ^ j : Nat) : Int)⟩ (P.halve (y :: r) l) (j + 1) := by
      refine ⟨fun m' hm' => ?_, ⟨P.halve_inc _ _, ?_⟩, by simp only [List.length_set]; exact hlen, by omega, by simp only; omega, ?_⟩
      · rcases List.mem_or_eq_of_mem_set hm' with h | rfl
        · exact hp.inc m' h
        · exact ⟨P.inc_nil, by simp⟩
      · unfold P.halve; rw [P.odds_len, P.srt_len, List.length_append]; omega
      · simp only; push_cast at hsl ⊢; omega
    have := ih lv5 vh ⟨s.k, s.tail, s.lv.set j [], s.n, s.sl + ((2 ^ j : Nat) : Int)⟩ (P.halve (y :: r) l) (j + 1) w5 (by simp only [List.length_set]; omega) hb5 hr5 hh5 hp5
    rw [hcg]
    simp only at this ⊢
    have e : s.sl + ((2 ^ j : Nat) : Int) + ((P.car (s.lv.set j []) (P.halve (y :: r) l) (j + 1)).2 : Int) = s.sl + ((2 ^ j + (P.car (s.lv.set j []) (P.halve (y :: r) l) (j + 1)).2 : Nat) : Int) := by push_cast; omega
    rw [e, Int.natCast_add j 1] at this
    exact this
end Go.Proofs.Ytlndbmenaaiogaa
