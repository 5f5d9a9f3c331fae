/- What New does. -/
import Derived.Test.YtlghnnmgbdjgoaaIdxD
namespace Go.Proofs.Ytlghnnmgbdjgoaa
open Go.RowKit Go.Maps Go.ChangeMaps Go.Sort
set_option linter.unusedVariables false
/-- A row of rows of labels. -/
def RowsL (w : World) (v : Value) (L : List (List P.Lb)) : Prop :=
  ∃ a cap, v = .slice a L.length cap ∧ (L.length ≤ cap ∧ cap ≤ maxLen) ∧ (L = [] ∨ ∃ b off, a = some ⟨b, off, none⟩ ∧ b < w.heap.size ∧ ∀ j l, L[j]? = some l → ∃ vj, w.cell? ⟨b, off + j, none⟩ = some vj ∧ RowL w vj l)
theorem RowsL.below {w w' : World} {B : Nat} {v : Value} {L : List (List P.Lb)} (h : RowsL w v L) (hb : Below B w w') (hB : w.heap.size ≤ B) : RowsL w' v L := by
  obtain ⟨a, cap, h1, h2, h3⟩ := h
  refine ⟨a, cap, h1, h2, ?_⟩
  rcases h3 with h3 | ⟨b, off, e, hlt, hc⟩
  · exact .inl h3
  · refine .inr ⟨b, off, e, Nat.lt_of_lt_of_le hlt hb.size, fun j l hl => ?_⟩
    obtain ⟨vj, h4, h5⟩ := hc j l hl
    exact ⟨vj, (hb.cell (p := ⟨b, off + j, none⟩) (Nat.lt_of_lt_of_le hlt hB)).trans h4, h5.below hb hB⟩
namespace P
def newF : List (List Lb) → Int
  | [] => 0
  | l :: r => if chk l = 0 then newF r else chk l
def newE (L : List (List Lb)) : Int := if 200 < L.length then 2 else newF L
theorem newF_end (L : List (List Lb)) (k : Nat) (h : L.length ≤ k) : newF (L.drop k) = 0 := by rw [List.drop_eq_nil_of_le h]; rfl
theorem name_len {l : List Lb} (h : chk l = 0) {x : Lb} (hx : x ∈ l) : x.1.size ≤ 20 := by
  have h1 := chk_as h
  have hx2 : (1, x.1, x.2) ∈ asM l := List.mem_map.2 ⟨x, hx, rfl⟩
  have h2 := chkM_at h1 hx2
  exact goodN_len h2
end P
/-- The index under way. -/
def IxAt (w : World) (bx bm : Nat) (L : List (List P.Lb)) (n : Nat) (ev : List Ev) (wr : World) : Prop := ∃ F G, Idx wr w.heap.size bx bm n L.length F G ev
/-- An index of these labels, all of whose blocks lie at lo or above. -/
structure IxL (w : World) (lo bx : Nat) (L : List (List P.Lb)) : Prop where
  idx : ∃ bm N F G, Idx w lo bx bm N L.length F G (P.evTo L L.length) ∧ N ≤ 10000
  chk : ∀ i, i < L.length → P.chk (L.getD i []) = 0
  len : L.length ≤ 200
theorem IxL.ix {w : World} {lo bx : Nat} {L : List (List P.Lb)} (h : IxL w lo bx L) : Ix w bx L := by
  obtain ⟨⟨bm, N, F, G, h1, h2⟩, h3, h4⟩ := h
  exact ⟨⟨lo, bm, N, F, G, h1, h2⟩, h3, h4⟩
theorem IxL.below {w w' : World} {lo bx : Nat} {L : List (List P.Lb)} (h : IxL w lo bx L) (hb : Below w.heap.size w w') : IxL w' lo bx L := by
  obtain ⟨⟨bm, N, F, G, hi, hN⟩, h2, h3⟩ := h
  exact ⟨⟨bm, N, F, G, hi.below hb, hN⟩, h2, h3⟩
theorem Idx.keptLow {w w' : World} {B bx bm N cnt : Nat} {F : ByteArray → Option Nat} {G : ByteArray → ByteArray → Value} {ev : List Ev} {ob : Nat} (h : Idx w B bx bm N cnt F G ev) (hg : w.grownBy w' (some ob)) (hlow : ob < B) : Idx w' B bx bm N cnt F G ev where
  lx := h.lx
  lm := h.lm
  box := (hg.block bx (lt_of_block h.box) (by have := h.lx; simp; omega)).trans h.box
  out := h.out.kept hg (by have := h.lm; simp; omega)
  inn := fun s b hb => ⟨(h.inn s b hb).1.kept hg (by have := (h.inn s b hb).2; simp; omega), (h.inn s b hb).2⟩
  inj := h.inj
  nob := h.nob
  non := h.non
  row := fun s v => (h.row s v).grown hg (fun k hk e => by have := ((h.row s v).lt k hk).1; simp at e; omega)
  apart := h.apart
  emp := h.emp
theorem IxL.setCell {w : World} {lo bx : Nat} {L : List (List P.Lb)} (h : IxL w lo bx L) (ob j : Nat) (u : Value) (hlow : ob < lo) : IxL (w.setCell ⟨ob, j, none⟩ u) lo bx L := by
  obtain ⟨⟨bm, N, F, G, hi, hN⟩, h2, h3⟩ := h
  exact ⟨⟨bm, N, F, G, hi.keptLow (ob := ob) ⟨rfl, rfl, rfl, by simp, fun k _ hne => heap_setCell_other w ⟨ob, j, none⟩ k u (fun e => hne (by rw [e]))⟩ hlow, hN⟩, h2, h3⟩
/-- What New answers. -/
def NewPostL (w : World) (L : List (List P.Lb)) (e : Ending) (w' : World) : Prop :=
  (P.newE L ≠ 0 → e = .returned (.tuple #[.pointer none, .int .i64 (P.newE L)])) ∧ (P.newE L = 0 → ∃ bx, e = .returned (.tuple #[.pointer (some ⟨bx, 0, none⟩), .int .i64 0]) ∧ IxL w' w.heap.size bx L) ∧ Below w.heap.size w w'
def NewPost (w : World) (L : List (List P.Lb)) (e : Ending) (w' : World) : Prop :=
  (P.newE L ≠ 0 → e = .returned (.tuple #[.pointer none, .int .i64 (P.newE L)])) ∧ (P.newE L = 0 → ∃ bx, e = .returned (.tuple #[.pointer (some ⟨bx, 0, none⟩), .int .i64 0]) ∧ Ix w' bx L) ∧ Below w.heap.size w w'
theorem newPost_err {w w' : World} {L : List (List P.Lb)} (c : Int) (hc : P.newE L = c) (h0 : c ≠ 0) (hb : Below w.heap.size w w') : NewPostL w L (.returned (.tuple #[.pointer none, .int .i64 c])) w' := by
  subst hc; exact ⟨fun _ => rfl, fun h => absurd h h0, hb⟩
theorem newPost_ok {w w' : World} {L : List (List P.Lb)} (bx : Nat) (hc : P.newE L = 0) (hi : IxL w' w.heap.size bx L) (hb : Below w.heap.size w w') : NewPostL w L (.returned (.tuple #[.pointer (some ⟨bx, 0, none⟩), .int .i64 0])) w' :=
  ⟨fun h => absurd hc h, fun _ => ⟨bx, rfl, hi⟩, hb⟩
theorem ix_start (w : World) (L : List (List P.Lb)) : IxAt w (w.heap.size + 1) w.heap.size L 0 [] ((w.alloc (.map #[] 0)).alloc (.cells #[.int .i64 (L.length : Int), .map (some w.heap.size)] 64)) := by
  refine ⟨fun _ => none, fun _ _ => .slice none 0 0, ?_⟩
  have hg := World.grownBy_alloc (w.alloc (.map #[] 0)) (.cells #[.int .i64 (L.length : Int), .map (some w.heap.size)] 64) none
  exact {
    lx := by omega
    lm := Nat.le_refl _
    box := by
      have := heap_alloc_new (w.alloc (.map #[] 0)) (.cells #[.int .i64 (L.length : Int), .map (some w.heap.size)] 64)
      simpa using this
    out := (MapIs.made w (.map none)).kept hg (by simp)
    inn := fun s b h => by cases h
    inj := fun s s' b h => by cases h
    nob := fun s h => by cases h
    non := fun s _ v => rfl
    row := fun s v => OwnK.nil _ _ _ _
    apart := fun s v s' v' g h => by cases h
    emp := fun s v _ => rfl }
theorem evs1_take {l : List P.Lb} {k : Nat} {x : P.Lb} (h : l[k]? = some x) (i : Nat) : P.evs1 (l.take (k + 1)) i = P.evs1 (l.take k) i ++ [(x.1, x.2, (i : Int))] := by
  unfold P.evs1
  rw [List.take_add_one, h]
  simp
set_option maxRecDepth 100000 in
set_option maxHeartbeats 4000000 in
theorem new_lo (w : World) (v : Value) (L : List (List P.Lb)) (hr : RowsL w v L) (hl : ∀ l ∈ L, LbOk l) : Calls Try.prog 9 #[v] w (NewPostL w L) := by
  obtain ⟨a, cap, rfl, ⟨hlc, hmax⟩, hcase⟩ := hr
  unfold maxLen at hmax
  by_cases hn : 200 < L.length
  · have hd : decide (200 < (L.length : Int)) = true := by simp; omega
    have HC : Hid (P.newE L = 2) := by show _ = _; unfold P.newE; rw [if_pos hn]
    clear hcase hl
    go_enter Try.func9, Try.ntmps9
    go_wp2
    go_ret2
    exact newPost_err _ HC.out (by decide) (Below.refl _ _)
  · have hd : decide (200 < (L.length : Int)) = false := by simp; omega
    have HC : Hid (P.newE L = P.newF L) := by show _ = _; unfold P.newE; rw [if_neg hn]
    have hn' : L.length ≤ 200 := by omega
    have HX := hide (ix_start w L)
    have HB : Hid (Below w.heap.size w ((w.alloc (.map #[] 0)).alloc (.cells #[.int .i64 (L.length : Int), .map (some w.heap.size)] 64))) := ((Below.refl _ w).alloc (Nat.le_refl _) _).alloc (by simp) _
    have HCK := hide (fun (W : World) (vj : Value) (l : List P.Lb) (hr : RowL W vj l) (hl : LbOk l) => check_any vj l W hr hl)
    have hMk := run_makeMap (P := Try.prog) 62 w
    clear hn
    generalize hne : P.newE L = ne at HC
    have HNE := hide hne
    clear hne
    go_enter Try.func9, Try.ntmps9
    go_wp2
    clear hMk
    generalize hbm : w.heap.size + 1 = bx at HX ⊢
    clear hbm
    generalize (w.alloc (.map #[] 0)).alloc (.cells #[.int .i64 (L.length : Int), .map (some w.heap.size)] 64) = w1 at HX HB ⊢
    go_loopw [20] (fun i wr => ∃ (k : Nat), k ≤ L.length ∧ i = .int .i64 k ∧ ne = P.newF (L.drop k) ∧ (∀ j, j < k → P.chk (L.getD j []) = 0) ∧ IxAt w bx w.heap.size L (20 * k) (P.evTo L k) wr ∧ Below w.heap.size w wr) (fun i _ => L.length - (intOf i).toNat)
    case atStart => exact ⟨0, by omega, rfl, HC.out, fun j hj => by omega, HX.out, HB.out⟩
    case round =>
      obtain ⟨k, hk, rfl, heq, hck, hix, hB⟩ := hrel
      have HE := hide heq
      have HK := hide hck
      have HI := hide hix
      have HBr := hide hB
      clear heq hck hix HX HB HC
      by_cases hlt : k < L.length
      · rcases hcase with h | ⟨b, off, rfl, hbs, hcell⟩
        · rw [h] at hlt; simp at hlt
        have j0 : (0 : Int) ≤ (k : Int) := by omega
        have j1 : (k : Int) < (L.length : Int) := by omega
        obtain ⟨l, hx⟩ : ∃ x, L[k]? = some x := ⟨_, List.getElem?_eq_getElem hlt⟩
        have hgd : L.getD k [] = l := by simp [List.getD_eq_getElem?_getD, hx]
        obtain ⟨vj, g0, hrow⟩ := hcell k l hx
        have q0 := (hB.cell (p := ⟨b, off + k, none⟩) hbs).trans g0
        have hok := hl l (List.mem_of_getElem? hx)
        have HD : Hid (ne = if P.chk l = 0 then P.newF (L.drop (k + 1)) else P.chk l) := by show _ = _; rw [HE.out, P.drop_at hx]; rfl
        have hrr := hrow.below hB (Nat.le_refl _)
        have HC1 := hide (HCK.out wr vj l hrr hok)
        obtain ⟨al, cl, rfl, ⟨hl1, hl2, hl3⟩, hlcase⟩ := hrow
        unfold maxLen at hl2
        have HLC := hide hlcase
        clear hcell g0 hrr hok HCK HE hlcase
        by_cases hz : P.chk l = 0
        · have HZ := hide hz
          have HLL := hide (P.chk_len hz)
          have HN1 := hide (fun x hx => P.name_len hz (x := x) hx)
          have HV1 := hide (fun x hx => P.chk_val hz x hx)
          have HD1 : Hid (ne = P.newF (L.drop (k + 1))) := by show _ = _; rw [HD.out, if_pos hz]
          have HEL := hide (P.evTo_len (L := L) k (fun i hi => P.chk_len (HK.out i hi)))
          have HEV : Hid (P.evTo L (k + 1) = P.evTo L k ++ P.evs1 l k) := by show _ = _; rw [P.evTo, hgd]
          have HKS : Hid (∀ j, j < k + 1 → P.chk (L.getD j []) = 0) := fun j hj => by
            rcases Nat.lt_or_ge j k with h | h
            · exact HK.out j h
            · obtain rfl : j = k := by omega
              rw [hgd]; exact hz
          rw [hz] at HC1
          clear hz HD hgd hx
          go_wp2_with fail
          refine HC1.out.mono ?_
          rintro e w2 ⟨rfl, h2⟩
          have hB2 := Below.next hB h2
          have HI2 : Hid (IxAt w bx w.heap.size L (20 * k) (P.evTo L k) w2) := by obtain ⟨F, G, hi⟩ := HI.out; exact ⟨F, G, hi.below h2⟩
          have HB2 := hide hB2
          clear hB h2 HI HC1 q0 hB2 HBr
          go_wp2
          go_loopw [32] (fun i wr => ∃ (j : Nat), j ≤ l.length ∧ i = .int .i64 j ∧ IxAt w bx w.heap.size L (20 * k + 2 * j) (P.evTo L k ++ P.evs1 (l.take j) k) wr ∧ Below w.heap.size w wr) (fun i _ => l.length - (intOf i).toNat)
          case atStart => exact ⟨0, by omega, rfl, by simpa [P.evs1] using HI2.out, HB2.out⟩
          case round =>
            obtain ⟨j, hj, rfl, hix, hBq⟩ := hrel
            have HIQ := hide hix
            clear hix HI2 HB2
            by_cases hlt2 : j < l.length
            · rcases HLC.out with h | ⟨b2, off2, rfl, hbs2, hcell2⟩
              · rw [h] at hlt2; simp at hlt2
              have j2 : (0 : Int) ≤ (j : Int) := by omega
              have j3 : (j : Int) < (l.length : Int) := by omega
              obtain ⟨x, hx⟩ : ∃ x, l[j]? = some x := ⟨_, List.getElem?_eq_getElem hlt2⟩
              obtain ⟨g0, g1⟩ := RowL.at hcell2 hx
              have q0 := (hBq.cell (p := ⟨b2, off2 + j * 2, none⟩) hbs2).trans g0
              have q1 := (hBq.cell (p := ⟨b2, off2 + j * 2 + 1, none⟩) hbs2).trans g1
              have hs1 := HN1.out x (List.mem_of_getElem? hx)
              have hv1 := HV1.out x (List.mem_of_getElem? hx)
              have HTK := hide (evs1_take hx k)
              obtain ⟨xn, xv⟩ := x
              have hBa : Below w.heap.size w (wr.alloc (.cells #[.string xn, .string xv] 32)) := hBq.alloc hBq.size _
              have HAD : Hid (Calls Try.prog 32 #[.pointer (some ⟨bx, 0, none⟩), .agg #[.string xn, .string xv], .int .i64 (k : Int)] (wr.alloc (.cells #[.string xn, .string xv] 32)) fun e w' => e = .returned (.tuple #[]) ∧ IxAt w bx w.heap.size L (20 * k + 2 * (j + 1)) (P.evTo L k ++ P.evs1 (l.take (j + 1)) k) w' ∧ Below w.heap.size w w') := by
                obtain ⟨F, G, hi⟩ := HIQ.out
                have hi2 := hi.below ((Below.refl _ wr).alloc (Nat.le_refl _) (.cells #[.string xn, .string xv] 32))
                simp only at hs1 hv1
                have hel : (P.evTo L k ++ P.evs1 (l.take j) k).length ≤ 1000000 := by
                  have h1 := HEL.out
                  have h2 := HLL.out
                  have h3 : (P.evs1 (l.take j) k).length ≤ l.length := by unfold P.evs1; rw [List.length_map]; exact List.length_take_le' _ _
                  rw [List.length_append]; omega
                have h2 := HLL.out
                refine (add_any _ _ _ _ _ _ F G _ xn xv k hi2 (by omega) (by omega) (by omega) hel).mono ?_
                rintro e w' ⟨rfl, ⟨F', G', h3⟩, h4⟩
                refine ⟨rfl, ⟨F', G', ?_⟩, hBa.trans h4⟩
                rw [HTK.out, ← List.append_assoc]
                exact h3.mono (by omega)
              clear hcell2 g0 g1 hx hs1 hv1 HTK HIQ
              simp only at q0 q1
              go_wp2_with fail
              refine HAD.out.mono ?_
              rintro e w3 ⟨rfl, hi3, hb3⟩
              have HI3 := hide hi3
              clear hi3 HAD
              go_wp2
              go_roundw
              case rel => exact ⟨j + 1, by omega, by go_num, HI3.out, hb3⟩
              case measure => simp [intOf]; omega
            · obtain rfl : j = l.length := by omega
              have hdd : decide ((l.length : Int) < (l.length : Int)) = false := by simp
              have HIE : Hid (IxAt w bx w.heap.size L (20 * (k + 1)) (P.evTo L (k + 1)) wr) := by
                obtain ⟨F, G, hi⟩ := HIQ.out
                rw [List.take_length] at hi
                have := HLL.out
                refine ⟨F, G, ?_⟩
                rw [HEV.out]
                exact hi.mono (by omega)
              go_wp2
              go_roundw
              case rel => exact ⟨k + 1, by omega, by go_num, HD1.out, HKS.out, HIE.out, hBq⟩
              case measure => simp [intOf]; omega
        · have HNZ := hide hz
          have hz3 : (P.chk l != 0) = true := by simp [hz]
          have HD1 : Hid (ne = P.chk l) := by show _ = _; rw [HD.out, if_neg hz]
          clear hz HD
          generalize P.chk l = co at HC1 hz3 HD1 HNZ
          go_wp2_with fail
          refine HC1.out.mono ?_
          rintro e w2 ⟨rfl, h2⟩
          go_wp2
          go_ret2
          exact newPost_err _ (HNE.out.trans HD1.out) HNZ.out (Below.next hB h2)
      · obtain rfl : k = L.length := by omega
        have hdd : decide ((L.length : Int) < (L.length : Int)) = false := by simp
        have HZ : Hid (ne = 0) := by show _ = _; rw [HE.out, P.newF_end _ _ (Nat.le_refl _)]
        clear HE hcase hl
        go_wp2
        go_ret2
        refine newPost_ok _ (HNE.out.trans HZ.out) ?_ hB
        obtain ⟨F, G, hi⟩ := HI.out
        exact ⟨⟨_, _, F, G, hi, by omega⟩, HK.out, hn'⟩
theorem new_any (w : World) (v : Value) (L : List (List P.Lb)) (hr : RowsL w v L) (hl : ∀ l ∈ L, LbOk l) : Calls Try.prog 9 #[v] w (NewPost w L) := by
  refine (new_lo w v L hr hl).mono ?_
  rintro e w' ⟨h1, h2, h3⟩
  exact ⟨h1, fun h => by obtain ⟨bx, he, hi⟩ := h2 h; exact ⟨bx, he, hi.ix⟩, h3⟩
end Go.Proofs.Ytlghnnmgbdjgoaa
