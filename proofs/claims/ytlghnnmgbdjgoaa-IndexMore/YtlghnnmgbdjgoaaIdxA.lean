/- What add does. -/
import Derived.Test.YtlghnnmgbdjgoaaIdxM
import Derived.Test.YtlghnnmgbdjgoaaKitL
import Derived.Deep.QuietTactic
import Derived.BigQuiet
import Derived.Deep.RegionHeld3
import Derived.Deep.DrawnRows
namespace Go.Proofs.Ytlghnnmgbdjgoaa
open Go.RowKit Go.Maps Go.ChangeMaps
set_option linter.unusedVariables false
set_option linter.unusedSimpArgs false
attribute [local go_sem ↓] Go.wp_at_zero Go.wp_at_succ
theorem zeroM (w : World) : (zeroValue 75).run Try.prog w = .ok (.map none) w := by kernel_rfl
theorem zeroR (w : World) : (zeroValue 37).run Try.prog w = .ok (.slice none 0 0) w := by kernel_rfl
theorem eqM_some (b : Nat) (w : World) : (binOp BinOp.eql 75 (.map (some b)) (.map none)).run Try.prog w = .ok (.bool false) w := by kernel_rfl
theorem eqM_none (w : World) : (binOp BinOp.eql 75 (.map none) (.map none)).run Try.prog w = .ok (.bool true) w := by kernel_rfl
theorem sclone (s : ByteArray) (w : World) (hs : s.size ≤ 281474976710656) : Calls Try.prog 39 #[.string s] w fun e w' => e = .returned (.string s) ∧ Below w.heap.size w w' := by
  have HC := hide (Try.stringslite_Clone s w hs)
  go_enter Try.func39, Try.ntmps39
  go_wp2_with fail
  refine HC.out.mono ?_
  rintro e w1 ⟨rfl, b1⟩
  go_wp2
  go_ret
  exact ⟨rfl, b1⟩
theorem Idx.cellN {w : World} {B bx bm N cnt : Nat} {F : ByteArray → Option Nat} {G : ByteArray → ByteArray → Value} {ev : List Ev} (h : Idx w B bx bm N cnt F G ev) : w.cell? ⟨bx, 0, none⟩ = some (.int .i64 cnt) := by simp [World.cell?, h.box]
theorem Idx.cellM {w : World} {B bx bm N cnt : Nat} {F : ByteArray → Option Nat} {G : ByteArray → ByteArray → Value} {ev : List Ev} (h : Idx w B bx bm N cnt F G ev) : w.cell? ⟨bx, 1, none⟩ = some (.map (some bm)) := by simp [World.cell?, h.box]
theorem Idx.below {w w' : World} {B bx bm N cnt : Nat} {F : ByteArray → Option Nat} {G : ByteArray → ByteArray → Value} {ev : List Ev} (h : Idx w B bx bm N cnt F G ev) (hb : Below w.heap.size w w') : Idx w' B bx bm N cnt F G ev := h.kept (grown_below hb none)
theorem Idx.lookM {w : World} {B bx bm N cnt : Nat} {F : ByteArray → Option Nat} {G : ByteArray → ByteArray → Value} {ev : List Ev} (h : Idx w B bx bm N cnt F G ev) (s : ByteArray) (hs : s.size ≤ 281474976710656) :
    (Instr.lookup 62 (.map (some bm)) (.string s) false).run Try.prog w = .ok (.map (F s)) w := h.out.look Try.underlying62 (zeroM _) s (by omega)
theorem Idx.lookV {w : World} {B bx bm N cnt : Nat} {F : ByteArray → Option Nat} {G : ByteArray → ByteArray → Value} {ev : List Ev} (h : Idx w B bx bm N cnt F G ev) {s : ByteArray} {b : Nat} (hF : F s = some b) (v : ByteArray) (hv : v.size ≤ 281474976710656) :
    (Instr.lookup 75 (.map (some b)) (.string v) false).run Try.prog w = .ok (G s v) w := (h.inn s b hF).1.look Try.underlying75 (zeroR _) v (by omega)
/-- The block of one label. -/
abbrev LbBlk (w : World) (ob : Nat) (s v : ByteArray) : Prop := w.heap[ob]? = some (.cells #[.string s, .string v] 32)
theorem LbBlk.c0 {w : World} {ob : Nat} {s v : ByteArray} (h : LbBlk w ob s v) : w.cell? ⟨ob, 0, none⟩ = some (.string s) := by simp [World.cell?, h]
theorem LbBlk.c1 {w : World} {ob : Nat} {s v : ByteArray} (h : LbBlk w ob s v) : w.cell? ⟨ob, 1, none⟩ = some (.string v) := by simp [World.cell?, h]
theorem LbBlk.below {w w' : World} {ob : Nat} {s v : ByteArray} (h : LbBlk w ob s v) (hb : Below w.heap.size w w') : LbBlk w' ob s v := (hb.block ob (lt_of_block h)).trans h
/-- Ahead of the number's coming, and behind it, where the map does not tell it yet. -/
structure PreA (w W : World) (B bx bm N cnt : Nat) (F : ByteArray → Option Nat) (G : ByteArray → ByteArray → Value) (ev : List Ev) (ob : Nat) (s v : ByteArray) : Prop where
  idx : Idx W B bx bm N cnt F G ev
  bel : Below B w W
  lab : LbBlk W ob s v
structure PostA (w W : World) (B bx bm N cnt : Nat) (F : ByteArray → Option Nat) (G : ByteArray → ByteArray → Value) (ev : List Ev) (ob : Nat) (s v : ByteArray) (x : Int) (v' : Value) : Prop where
  idx : ∃ w0, Idx w0 B bx bm N cnt F G ev ∧ w0.grownBy W (G s v).ownBlock ∧ (v'.ownBlock = (G s v).ownBlock ∨ ∃ g, v'.ownBlock = some g ∧ w0.heap.size ≤ g)
  own : OwnI W B v' (nums ev s v ++ [x])
  bel : Below B w W
  lab : LbBlk W ob s v
theorem Idx.lowB {w : World} {B bx bm N cnt : Nat} {F : ByteArray → Option Nat} {G : ByteArray → ByteArray → Value} {ev : List Ev} (h : Idx w B bx bm N cnt F G ev) : B ≤ w.heap.size := Nat.le_of_lt (Nat.lt_of_le_of_lt h.lx (lt_of_block h.box))
theorem Idx.mono {w : World} {B bx bm N N' cnt : Nat} {F : ByteArray → Option Nat} {G : ByteArray → ByteArray → Value} {ev : List Ev} (h : Idx w B bx bm N cnt F G ev) (hN : N ≤ N') : Idx w B bx bm N' cnt F G ev :=
  ⟨h.lx, h.lm, h.box, h.out.mono hN, fun s b hb => ⟨(h.inn s b hb).1.mono hN, (h.inn s b hb).2⟩, h.inj, h.nob, h.non, h.row, h.apart, h.emp⟩
section
variable {w W W' : World} {B bx bm N cnt : Nat} {F : ByteArray → Option Nat} {G : ByteArray → ByteArray → Value} {ev : List Ev} {ob : Nat} {s v : ByteArray} {x : Int} {v' : Value}
theorem below_low {a b c : World} {B : Nat} (h : Below B a b) (h2 : Below b.heap.size b c) (hB : B ≤ b.heap.size) : Below B a c := h.trans (h2.mono hB)
theorem PreA.next (h : PreA w W B bx bm N cnt F G ev ob s v) (hb : Below W.heap.size W W') : PreA w W' B bx bm N cnt F G ev ob s v := ⟨h.idx.below hb, below_low h.bel hb h.idx.lowB, h.lab.below hb⟩
theorem PreA.make (h : PreA w W B bx bm N cnt F G ev ob s v) (o : Obj) : PreA w (W.alloc o) B bx bm N cnt F G ev ob s v := h.next ((Below.refl _ W).alloc (Nat.le_refl _) o)
/-- A new map that nothing leads to yet. -/
structure PreN (w W : World) (B bx bm N cnt : Nat) (F : ByteArray → Option Nat) (G : ByteArray → ByteArray → Value) (ev : List Ev) (ob : Nat) (s v : ByteArray) (nb : Nat) : Prop where
  pre : PreA w W B bx bm N cnt F G ev ob s v
  new : MapIs W nb 0 (.slice none 0 0) (fun _ => .slice none 0 0)
  far : ∀ s, F s ≠ some nb
  nbm : nb ≠ bm
  low : B ≤ nb
theorem PreA.newMap (h : PreA w W B bx bm N cnt F G ev ob s v) : PreN w (W.alloc (.map #[] 0)) B bx bm N cnt F G ev ob s v W.heap.size :=
  ⟨h.make _, MapIs.made W _, fun s' hs' => Nat.lt_irrefl _ ((h.idx.inn s' _ hs').1.lt), fun e => by have := h.idx.out.lt; omega, h.idx.lowB⟩
theorem PreN.next {nb : Nat} (h : PreN w W B bx bm N cnt F G ev ob s v nb) (hb : Below W.heap.size W W') : PreN w W' B bx bm N cnt F G ev ob s v nb := ⟨h.pre.next hb, h.new.kept (grown_below hb none) (by simp), h.far, h.nbm, h.low⟩
theorem PreN.tell {nb : Nat} (h : PreN w W B bx bm N cnt F G ev ob s v nb) (hF : F s = none) (hs : s.size ≤ 281474976710656) (hN : N < 1000000) :
    ∃ W2, (Instr.mapUpdate 62 (.map (some bm)) (.string s) (.map (some nb))).run Try.prog W = .ok () W2 ∧ ∃ F', PreA w W2 B bx bm (N + 1) cnt F' G ev ob s v ∧ F' s = some nb := by
  obtain ⟨W2, hr, hi, hg⟩ := h.pre.idx.name (by omega) hF h.new h.far h.nbm h.low (by omega) Try.underlying62
  refine ⟨W2, hr, _, ⟨hi, h.pre.bel.grown hg h.pre.idx.lowB (fun k hk => ?_), (hg.block ob (lt_of_block h.pre.lab) ?_).trans h.pre.lab⟩, by simp⟩
  · simp at hk; subst hk; exact h.pre.idx.lm
  · intro e
    simp at e
    subst e
    obtain ⟨es, c, hm⟩ := h.pre.idx.out.isMap
    have h4 := h.pre.lab
    unfold LbBlk at h4; rw [hm] at h4; cases h4
theorem PostA.low (h : PostA w W B bx bm N cnt F G ev ob s v x v') : B ≤ W.heap.size := by
  obtain ⟨w0, h0, hg, _⟩ := h.idx
  exact Nat.le_trans h0.lowB hg.size
theorem PostA.next (h : PostA w W B bx bm N cnt F G ev ob s v x v') (hb : Below W.heap.size W W') : PostA w W' B bx bm N cnt F G ev ob s v x v' := by
  have hl := h.low
  obtain ⟨⟨w0, h0, hg, hl0⟩, h2, h3, h4⟩ := h
  exact ⟨⟨w0, h0, hg.trans (grown_below hb _), hl0⟩, h2.below hb (Nat.le_refl _), below_low h3 hb hl, h4.below hb⟩
theorem PreA.append (h : PreA w W B bx bm N cnt F G ev ob s v) {c : Nat} (hc : W.cell? ⟨c, 0, none⟩ = some (.int .i64 x)) (hev : ev.length ≤ 1000000) (ty : TypeId) :
    ∃ v' W', (Builtin.append_ #[37, 37] ty #[G s v, .slice (some ⟨c, 0, none⟩) 1 1]).run Try.prog W = .ok v' W' ∧ PostA w W' B bx bm N cnt F G ev ob s v x v' := by
  obtain ⟨i0, hi, hz0, hz1, hz2⟩ := info_parts infoI
  have hn := nums_len ev s v
  have hown := h.idx.row s v
  obtain ⟨v', W', hr, ho, hg, _, hat⟩ := run_append_own_at (P := Try.prog) W B 37 ty 3 i0 (.int .i64 0) 1 8 Try.underlying37 hi hz0 hz1 hz2 rfl (by decide) _ _ _ hown ⟨c, 0, none⟩ 1 1 [.int .i64 x] rfl (by
    intro j u hj
    match j, hj with
    | 0, hj => simp at hj; subst hj; simpa [Addr.add] using hc) (by intro u hu; simp at hu; subst hu; rfl) (by unfold maxLen; omega) (by omega) h.idx.lowB
  refine ⟨v', W', hr, ⟨W, h.idx, hg, ?_⟩, ?_, h.bel.grown hg h.idx.lowB (fun k hk => (hown.lt k hk).1), ?_⟩
  · rcases hat with e | e
    · exact .inl e
    · exact .inr ⟨_, e, Nat.le_refl _⟩
  · have e1 : (nums ev s v ++ [x]).length = (nums ev s v).length + 1 := by simp
    have e2 : (nums ev s v ++ [x]).map (Value.int .i64) = (nums ev s v).map (Value.int .i64) ++ [.int .i64 x] := by simp
    show W'.ownsRow B 3 1 v' (nums ev s v ++ [x]).length ((nums ev s v ++ [x]).map (Value.int .i64))
    rw [e1, e2]; exact ho
  · refine (hg.block ob (lt_of_block h.lab) ?_).trans h.lab
    intro e
    obtain ⟨cur, hcur⟩ := own_block hown e.symm
    have := h.lab
    unfold LbBlk at this
    rw [hcur] at this
    simp at this
theorem PreA.op (h : PreA w W B bx bm N cnt F G ev ob s v) {c : Nat} (hc : W.cell? ⟨c, 0, none⟩ = some (.int .i64 x)) (hev : ev.length ≤ 1000000) {o : Oper} {a : Act} {K : Act → World → Prop} {Q : Exit → Act → World → Prop} (s1 x1 : Operand)
    (ho : o.op = .call { callee := .builtin .append, args := #[s1, x1], argTypes := #[37, 37] }) (hs : a.eval s1 = G s v) (hx : a.eval x1 = .slice (some ⟨c, 0, none⟩) 1 1)
    (hK : ∀ v' W', PostA w W' B bx bm N cnt F G ev ob s v x v' → K (a.put o.dst v') W') : Oper.wp Try.prog o a W K Q := by
  obtain ⟨v', W', hr, hp⟩ := h.append hc hev o.type
  unfold Oper.wp
  simp [execOp, ho, resolve, invoke, builtin, hs, hx, hr, Result.andThen]
  exact hK v' W' hp
theorem PostA.tell (h : PostA w W B bx bm N cnt F G ev ob s v x v') {b : Nat} (hF : F s = some b) (hv : v.size ≤ 281474976710656) (hN : N ≤ 1000000) :
    ∃ W2, (Instr.mapUpdate 75 (.map (some b)) (.string v) v').run Try.prog W = .ok () W2 ∧ LbBlk W2 ob s v ∧ (∃ F' G', Idx W2 B bx bm (N + 1) cnt F' G' (ev ++ [(s, v, x)])) ∧ Below B w W2 := by
  have hl := h.low
  obtain ⟨⟨w0, h0, hg, hl0⟩, h2, h3, h4⟩ := h
  obtain ⟨W2, hr, ⟨G', hi⟩, hg2⟩ := h0.number (by omega) hF (by omega) hg h2 hl0 Try.underlying75
  refine ⟨W2, hr, (hg2.block ob (lt_of_block h4) ?_).trans h4, ⟨F, G', hi⟩, h3.grown hg2 hl (fun k hk => ?_)⟩
  · intro e
    simp at e
    subst e
    obtain ⟨hm, _⟩ := h0.inn s ob hF
    obtain ⟨es, c, hm⟩ := (hm.kept hg (h0.mapNot hm s v)).isMap
    unfold LbBlk at h4; rw [hm] at h4; cases h4
  · simp at hk; subst hk; exact (h0.inn s b hF).2
end

set_option maxRecDepth 100000 in
set_option maxHeartbeats 4000000 in
theorem add_any (w : World) (B bx bm N cnt : Nat) (F : ByteArray → Option Nat) (G : ByteArray → ByteArray → Value) (ev : List Ev) (s v : ByteArray) (x : Int) (h : Idx w B bx bm N cnt F G ev) (hs : s.size ≤ 281474976710656) (hv : v.size ≤ 281474976710656) (hN0 : N < 1000000) (hev : ev.length ≤ 1000000) :
    Calls Try.prog 32 #[.pointer (some ⟨bx, 0, none⟩), .agg #[.string s, .string v], .int .i64 x] w fun e w' => e = .returned (.tuple #[]) ∧ (∃ F' G', Idx w' B bx bm (N + 2) cnt F' G' (ev ++ [(s, v, x)])) ∧ Below B w w' := by
  have HC0 := hide (fun W => sclone s W hs)
  have HC := hide (fun W => sclone v W hv)
  have hlow := h.lowB
  have HP : Hid (PreA w (w.alloc (.cells #[.string s, .string v] 32)) B bx bm N cnt F G ev w.heap.size s v) :=
    ⟨h.below ((Below.refl _ w).alloc (Nat.le_refl _) _), (Below.refl B w).alloc hlow _, heap_alloc_new w _⟩
  clear h
  go_enter Try.func32, Try.ntmps32
  go_wp2
  generalize hob : w.heap.size = ob at HP ⊢
  generalize w.alloc (.cells #[.string s, .string v] 32) = w1 at HP ⊢
  have hc1 : ∀ n, (w1.drewN n).cell? ⟨bx, 1, none⟩ = some (.map (some bm)) := fun n => HP.out.idx.cellM
  have hc0 : ∀ n, (w1.drewN n).cell? ⟨ob, 0, none⟩ = some (.string s) := fun n => HP.out.lab.c0
  have hl1 : ∀ n, (Instr.lookup 62 (.map (some bm)) (.string s) false).run Try.prog (w1.drewN n) = .ok (.map (F s)) (w1.drewN n) := fun n => (HP.out.idx.below (w' := w1.drewN n) (below_dn (Below.refl _ _) n)).lookM s hs
  cases hF : F s with
  | none =>
    rw [hF] at hl1
    have HN : Hid (∀ b, F s = some b → False) := fun b hb => by rw [hF] at hb; cases hb
    go_quiet (fail)
    have HQ := hide (HP.out.next (below_dn (Below.refl _ _) nq))
    generalize w1.drewN nq = w2 at HQ ⊢
    clear HP hl1 hc0 hc1
    have hEq := eqM_none w2
    have hMk := run_makeMap (P := Try.prog) 75 w2
    have HM := hide HQ.out.newMap
    generalize hnb : w2.heap.size = nb at hMk HM
    clear hnb
    generalize w2.alloc (.map #[] 0) = w3 at hMk HM
    clear HQ
    go_wp2
    clear hEq hMk
    refine wp_region_held_drew (S := fun wx => wx.cell? ⟨bx, 1, none⟩ = some (.map (some bm)) ∧ wx.cell? ⟨ob, 0, none⟩ = some (.string s)) (by kernel_rfl) ⟨HM.out.pre.idx.cellM, HM.out.pre.lab.c0⟩ (fun hHeld => ?_)
    refine wpAnyH_take (i := 0) (v := ?v1) rfl (by kernel_rfl) (by kernel_rfl) (by kernel_rfl) (fun _ _ _ h => h) (Or.inl ⟨by rfl, ?hy1⟩) (by assumption) ?rest1
    case hy1 =>
      intro wx hSw
      obtain ⟨hS1, hS2⟩ := hSw
      go_simp
      all_goals with_reducible rfl
    try simp only [Act.put, List.getElem_toArray, List.getElem_cons_succ, List.getElem_cons_zero, List.setIfInBounds_toArray, List.set_cons_zero, List.set_cons_succ]
    refine wpAnyH_take (i := 1) (v := ?v2) rfl (by kernel_rfl) (by kernel_rfl) (by kernel_rfl) (fun _ _ _ h => h) (Or.inl ⟨by rfl, ?hy2⟩) (by assumption) ?rest2
    case hy2 =>
      intro wx hSw
      obtain ⟨hS1, hS2⟩ := hSw
      go_simp
      all_goals with_reducible rfl
    try simp only [Act.put, List.getElem_toArray, List.getElem_cons_succ, List.getElem_cons_zero, List.setIfInBounds_toArray, List.set_cons_zero, List.set_cons_succ]
    refine wpAnyH_take (i := 2) (v := ?v3) rfl (by kernel_rfl) (by kernel_rfl) (by kernel_rfl) (fun _ _ _ h => h) (Or.inl ⟨by rfl, ?hy3⟩) (by assumption) ?rest3
    case hy3 =>
      intro wx hSw
      obtain ⟨hS1, hS2⟩ := hSw
      go_simp
      all_goals with_reducible rfl
    try simp only [Act.put, List.getElem_toArray, List.getElem_cons_succ, List.getElem_cons_zero, List.setIfInBounds_toArray, List.set_cons_zero, List.set_cons_succ]
    refine wpAnyH_take (i := 3) (v := ?v4) rfl (by kernel_rfl) (by kernel_rfl) (by kernel_rfl) (fun _ _ _ h => h) (Or.inl ⟨by rfl, ?hy4⟩) (by assumption) ?rest4
    case hy4 =>
      intro wx hSw
      obtain ⟨hS1, hS2⟩ := hSw
      go_simp
      all_goals with_reducible rfl
    try simp only [Act.put, List.getElem_toArray, List.getElem_cons_succ, List.getElem_cons_zero, List.setIfInBounds_toArray, List.set_cons_zero, List.set_cons_succ]
    refine wpAnyH_take (i := 4) (v := ?v5) rfl (by kernel_rfl) (by kernel_rfl) (by kernel_rfl) (fun _ _ _ h => h) (Or.inl ⟨by rfl, ?hy5⟩) (by assumption) ?rest5
    case hy5 =>
      intro wx hSw
      obtain ⟨hS1, hS2⟩ := hSw
      go_simp
      all_goals with_reducible rfl
    try simp only [Act.put, List.getElem_toArray, List.getElem_cons_succ, List.getElem_cons_zero, List.setIfInBounds_toArray, List.set_cons_zero, List.set_cons_succ]
    refine wpAnyH_take (i := 5) (v := ?v6) rfl (by kernel_rfl) (by kernel_rfl) (by kernel_rfl) (fun _ _ _ h => h) (Or.inl ⟨by rfl, ?hy6⟩) (by assumption) ?rest6
    case hy6 =>
      intro wx hSw
      obtain ⟨hS1, hS2⟩ := hSw
      go_simp
      all_goals with_reducible rfl
    try simp only [Act.put, List.getElem_toArray, List.getElem_cons_succ, List.getElem_cons_zero, List.setIfInBounds_toArray, List.set_cons_zero, List.set_cons_succ]
    refine wpAnyH_take (i := 7) (v := ?v7) rfl (by kernel_rfl) (by kernel_rfl) (by kernel_rfl) (fun _ _ _ h => h) (Or.inl ⟨by rfl, ?hy7⟩) (by assumption) ?rest7
    case hy7 =>
      intro wx hSw
      obtain ⟨hS1, hS2⟩ := hSw
      go_simp
      all_goals with_reducible rfl
    try simp only [Act.put, List.getElem_toArray, List.getElem_cons_succ, List.getElem_cons_zero, List.setIfInBounds_toArray, List.set_cons_zero, List.set_cons_succ]
    refine wpAnyH_ready (rs := [6]) (by kernel_rfl) (by simp) ?_
    refine AllReadyH.cons rfl (fun K hK => ?_) AllReadyH.nil
    go_simp
    refine (HC0.out _).mono ?_
    rintro e wc ⟨rfl, hc⟩
    try go_simp
    have HM1 := hide ((HM.out.next (Below.refl _ _).drew).next hc)
    refine hK.out _ _ ⟨HM1.out.pre.idx.cellM, HM1.out.pre.lab.c0⟩ (fun hHeld => ?_)
    clear hK K
    try simp only [Act.put, List.getElem_toArray, List.getElem_cons_succ, List.getElem_cons_zero, List.setIfInBounds_toArray, List.set_cons_zero, List.set_cons_succ]
    refine wpAnyH_ready (rs := [8]) (by kernel_rfl) (by simp) ?_
    refine AllReadyH.cons rfl (fun K hK => ?_) AllReadyH.nil
    obtain ⟨wn, hrn, F', hpn, hFn⟩ := HM1.out.tell hF hs hN0
    have HN1 := hide hpn
    have HF := hide hFn
    clear hpn hFn
    go_simp
    refine hK.out _ _ ⟨HN1.out.idx.cellM, HN1.out.lab.c0⟩ (fun hHeld => ?_)
    clear hK K hrn
    try simp only [Act.put, List.getElem_toArray, List.getElem_cons_succ, List.getElem_cons_zero, List.setIfInBounds_toArray, List.set_cons_zero, List.set_cons_succ]
    refine wpAnyH_done (by kernel_rfl) ?_ _
    clear HM1 HM hHeld
    have hN : N + 1 ≤ 1000000 := by omega
    go_wp2
    refine wp_region_held_drew (S := fun wx => wx.cell? ⟨ob, 1, none⟩ = some (.string v)) (by kernel_rfl) HN1.out.lab.c1 (fun hHeld => ?_)
    refine wpAnyH_take (i := 0) (v := ?v8) rfl (by kernel_rfl) (by kernel_rfl) (by kernel_rfl) (fun _ _ _ h => h) (Or.inl ⟨by rfl, ?hy8⟩) (by assumption) ?rest8
    case hy8 =>
      intro wx hSw
      have hSx : wx.cell? ⟨ob, 1, none⟩ = some (.string v) := hSw
      go_simp
      all_goals with_reducible rfl
    try simp only [Act.put, List.getElem_toArray, List.getElem_cons_succ, List.getElem_cons_zero, List.setIfInBounds_toArray, List.set_cons_zero, List.set_cons_succ]
    refine wpAnyH_take (i := 1) (v := ?v9) rfl (by kernel_rfl) (by kernel_rfl) (by kernel_rfl) (fun _ _ _ h => h) (Or.inl ⟨by rfl, ?hy9⟩) (by assumption) ?rest9
    case hy9 =>
      intro wx hSw
      have hSx : wx.cell? ⟨ob, 1, none⟩ = some (.string v) := hSw
      go_simp
      all_goals with_reducible rfl
    try simp only [Act.put, List.getElem_toArray, List.getElem_cons_succ, List.getElem_cons_zero, List.setIfInBounds_toArray, List.set_cons_zero, List.set_cons_succ]
    refine wpAnyH_take (i := 2) (v := ?v10) rfl (by kernel_rfl) (by kernel_rfl) (by kernel_rfl) (fun _ _ _ h => h) (Or.inl ⟨by rfl, ?hy10⟩) (by assumption) ?rest10
    case hy10 =>
      intro wx hSw
      have hSx : wx.cell? ⟨ob, 1, none⟩ = some (.string v) := hSw
      go_simp
      all_goals with_reducible rfl
    try simp only [Act.put, List.getElem_toArray, List.getElem_cons_succ, List.getElem_cons_zero, List.setIfInBounds_toArray, List.set_cons_zero, List.set_cons_succ]
    refine wpAnyH_take (i := 4) (v := ?v11) rfl (by kernel_rfl) (by kernel_rfl) (by kernel_rfl) (fun _ _ _ h => h) (Or.inl ⟨by rfl, ?hy11⟩) (by assumption) ?rest11
    case hy11 =>
      intro wx hSw
      have hSx : wx.cell? ⟨ob, 1, none⟩ = some (.string v) := hSw
      go_simp
      all_goals with_reducible rfl
    try simp only [Act.put, List.getElem_toArray, List.getElem_cons_succ, List.getElem_cons_zero, List.setIfInBounds_toArray, List.set_cons_zero, List.set_cons_succ]
    refine wpAnyH_take (i := 5) (v := ?v12) rfl (by kernel_rfl) (by kernel_rfl) (by kernel_rfl) (fun _ _ _ h => h) (Or.inl ⟨by rfl, ?hy12⟩) (by assumption) ?rest12
    case hy12 =>
      intro wx hSw
      have hSx : wx.cell? ⟨ob, 1, none⟩ = some (.string v) := hSw
      go_simp
      all_goals with_reducible rfl
    try simp only [Act.put, List.getElem_toArray, List.getElem_cons_succ, List.getElem_cons_zero, List.setIfInBounds_toArray, List.set_cons_zero, List.set_cons_succ]
    refine wpAnyH_take (i := 6) (v := ?v13) rfl (by kernel_rfl) (by kernel_rfl) (by kernel_rfl) (fun _ _ _ h => h) (Or.inl ⟨by rfl, ?hy13⟩) (by assumption) ?rest13
    case hy13 =>
      intro wx hSw
      have hSx : wx.cell? ⟨ob, 1, none⟩ = some (.string v) := hSw
      go_simp
      all_goals with_reducible rfl
    try simp only [Act.put, List.getElem_toArray, List.getElem_cons_succ, List.getElem_cons_zero, List.setIfInBounds_toArray, List.set_cons_zero, List.set_cons_succ]
    refine wpAnyH_take (i := 8) (v := ?v14) rfl (by kernel_rfl) (by kernel_rfl) (by kernel_rfl) (fun _ _ _ h => h) (Or.inl ⟨by rfl, ?hy14⟩) (by assumption) ?rest14
    case hy14 =>
      intro wx hSw
      have hSx : wx.cell? ⟨ob, 1, none⟩ = some (.string v) := hSw
      go_simp
      all_goals with_reducible rfl
    try simp only [Act.put, List.getElem_toArray, List.getElem_cons_succ, List.getElem_cons_zero, List.setIfInBounds_toArray, List.set_cons_zero, List.set_cons_succ]
    have hpd := hide (HN1.out.next (Below.refl _ _).drew)
    generalize (wn).drew = wd at hpd hHeld ⊢
    clear HN1
    refine wpAnyH_ready (rs := [3, 7, 9]) (by kernel_rfl) (by simp) ?_
    refine AllReadyH.cons rfl (fun K hK => ?_) ?_
    · go_simp
      refine (HC.out _).mono ?_
      rintro e wc1 ⟨rfl, hc1⟩
      try go_simp
      have hp1 := hide (hpd.out.next hc1)
      refine hK.out _ _ hp1.out.lab.c1 (fun hHeld => ?_)
      clear hK K
      try simp only [Act.put, List.getElem_toArray, List.getElem_cons_succ, List.getElem_cons_zero, List.setIfInBounds_toArray, List.set_cons_zero, List.set_cons_succ]
      refine wpAnyH_ready (rs := [7, 9]) (by kernel_rfl) (by simp) ?_
      refine AllReadyH.cons rfl (fun K hK => ?_) ?_
      · have hl2 := hp1.out.idx.lookV HF.out v hv
        go_simp
        refine hK.out _ _ hp1.out.lab.c1 (fun hHeld => ?_)
        clear hK K hl2
        try simp only [Act.put, List.getElem_toArray, List.getElem_cons_succ, List.getElem_cons_zero, List.setIfInBounds_toArray, List.set_cons_zero, List.set_cons_succ]
        refine wpAnyH_ready (rs := [9]) (by kernel_rfl) (by simp) ?_
        refine AllReadyH.cons rfl (fun K hK => ?_) ?_
        · have hp3 := hide (hp1.out.make (.cells #[.int .i64 x] 3))
          have hk3 : ((wc1).alloc (.cells #[.int .i64 x] 3)).cell? ⟨(wc1).heap.size, 0, none⟩ = some (.int .i64 x) := by simp
          go_simp
          refine hK.out _ _ hp3.out.lab.c1 (fun hHeld => ?_)
          clear hK K
          try simp only [Act.put, List.getElem_toArray, List.getElem_cons_succ, List.getElem_cons_zero, List.setIfInBounds_toArray, List.set_cons_zero, List.set_cons_succ]
          generalize hz3 : (wc1).heap.size = bz3 at hk3 ⊢
          clear hz3
          generalize (wc1).alloc (.cells #[.int .i64 x] 3) = wm3 at hp3 hk3 hHeld ⊢
          refine wpAnyH_ready (rs := [10]) (by kernel_rfl) (by simp) ?_
          refine AllReadyH.cons rfl (fun K hK => ?_) ?_
          · rw [if_pos (by rfl)]
            refine hp3.out.op hk3 hev (Operand.tmp 32) (Operand.tmp 34) rfl rfl rfl (fun va4 wa4 hq4 => ?_)
            have hp4 := hide hq4
            clear hq4
            try go_simp
            refine hK.out _ _ hp4.out.lab.c1 (fun hHeld => ?_)
            clear hK K
            try simp only [Act.put, List.getElem_toArray, List.getElem_cons_succ, List.getElem_cons_zero, List.setIfInBounds_toArray, List.set_cons_zero, List.set_cons_succ]
            refine wpAnyH_ready (rs := [11]) (by kernel_rfl) (by simp) ?_
            refine AllReadyH.cons rfl (fun K hK => ?_) AllReadyH.nil
            obtain ⟨wz, hrz, hlz, hiz, hbz⟩ := hp4.out.tell HF.out hv hN
            go_simp
            refine hK.out _ _ hlz.c1 (fun hHeld => ?_)
            clear hK K hrz
            refine wpAnyH_done (by kernel_rfl) ?_ _
            go_wp2
            go_end0
            exact ⟨rfl, (by obtain ⟨F1, G1, h1⟩ := hiz; exact ⟨F1, G1, h1.mono (by omega)⟩), hbz⟩
          exact AllReadyH.nil
        exact AllReadyH.nil
      refine AllReadyH.cons rfl (fun K hK => ?_) ?_
      · have hp5 := hide (hp1.out.make (.cells #[.int .i64 x] 3))
        have hk5 : ((wc1).alloc (.cells #[.int .i64 x] 3)).cell? ⟨(wc1).heap.size, 0, none⟩ = some (.int .i64 x) := by simp
        go_simp
        refine hK.out _ _ hp5.out.lab.c1 (fun hHeld => ?_)
        clear hK K
        try simp only [Act.put, List.getElem_toArray, List.getElem_cons_succ, List.getElem_cons_zero, List.setIfInBounds_toArray, List.set_cons_zero, List.set_cons_succ]
        generalize hz5 : (wc1).heap.size = bz5 at hk5 ⊢
        clear hz5
        generalize (wc1).alloc (.cells #[.int .i64 x] 3) = wm5 at hp5 hk5 hHeld ⊢
        refine wpAnyH_ready (rs := [7]) (by kernel_rfl) (by simp) ?_
        refine AllReadyH.cons rfl (fun K hK => ?_) ?_
        · have hl6 := hp5.out.idx.lookV HF.out v hv
          go_simp
          refine hK.out _ _ hp5.out.lab.c1 (fun hHeld => ?_)
          clear hK K hl6
          try simp only [Act.put, List.getElem_toArray, List.getElem_cons_succ, List.getElem_cons_zero, List.setIfInBounds_toArray, List.set_cons_zero, List.set_cons_succ]
          refine wpAnyH_ready (rs := [10]) (by kernel_rfl) (by simp) ?_
          refine AllReadyH.cons rfl (fun K hK => ?_) ?_
          · rw [if_pos (by rfl)]
            refine hp5.out.op hk5 hev (Operand.tmp 32) (Operand.tmp 34) rfl rfl rfl (fun va7 wa7 hq7 => ?_)
            have hp7 := hide hq7
            clear hq7
            try go_simp
            refine hK.out _ _ hp7.out.lab.c1 (fun hHeld => ?_)
            clear hK K
            try simp only [Act.put, List.getElem_toArray, List.getElem_cons_succ, List.getElem_cons_zero, List.setIfInBounds_toArray, List.set_cons_zero, List.set_cons_succ]
            refine wpAnyH_ready (rs := [11]) (by kernel_rfl) (by simp) ?_
            refine AllReadyH.cons rfl (fun K hK => ?_) AllReadyH.nil
            obtain ⟨wz, hrz, hlz, hiz, hbz⟩ := hp7.out.tell HF.out hv hN
            go_simp
            refine hK.out _ _ hlz.c1 (fun hHeld => ?_)
            clear hK K hrz
            refine wpAnyH_done (by kernel_rfl) ?_ _
            go_wp2
            go_end0
            exact ⟨rfl, (by obtain ⟨F1, G1, h1⟩ := hiz; exact ⟨F1, G1, h1.mono (by omega)⟩), hbz⟩
          exact AllReadyH.nil
        exact AllReadyH.nil
      exact AllReadyH.nil
    refine AllReadyH.cons rfl (fun K hK => ?_) ?_
    · have hl8 := hpd.out.idx.lookV HF.out v hv
      go_simp
      refine hK.out _ _ hpd.out.lab.c1 (fun hHeld => ?_)
      clear hK K hl8
      try simp only [Act.put, List.getElem_toArray, List.getElem_cons_succ, List.getElem_cons_zero, List.setIfInBounds_toArray, List.set_cons_zero, List.set_cons_succ]
      refine wpAnyH_ready (rs := [3, 9]) (by kernel_rfl) (by simp) ?_
      refine AllReadyH.cons rfl (fun K hK => ?_) ?_
      · go_simp
        refine (HC.out _).mono ?_
        rintro e wc9 ⟨rfl, hc9⟩
        try go_simp
        have hp9 := hide (hpd.out.next hc9)
        refine hK.out _ _ hp9.out.lab.c1 (fun hHeld => ?_)
        clear hK K
        try simp only [Act.put, List.getElem_toArray, List.getElem_cons_succ, List.getElem_cons_zero, List.setIfInBounds_toArray, List.set_cons_zero, List.set_cons_succ]
        refine wpAnyH_ready (rs := [9]) (by kernel_rfl) (by simp) ?_
        refine AllReadyH.cons rfl (fun K hK => ?_) ?_
        · have hp10 := hide (hp9.out.make (.cells #[.int .i64 x] 3))
          have hk10 : ((wc9).alloc (.cells #[.int .i64 x] 3)).cell? ⟨(wc9).heap.size, 0, none⟩ = some (.int .i64 x) := by simp
          go_simp
          refine hK.out _ _ hp10.out.lab.c1 (fun hHeld => ?_)
          clear hK K
          try simp only [Act.put, List.getElem_toArray, List.getElem_cons_succ, List.getElem_cons_zero, List.setIfInBounds_toArray, List.set_cons_zero, List.set_cons_succ]
          generalize hz10 : (wc9).heap.size = bz10 at hk10 ⊢
          clear hz10
          generalize (wc9).alloc (.cells #[.int .i64 x] 3) = wm10 at hp10 hk10 hHeld ⊢
          refine wpAnyH_ready (rs := [10]) (by kernel_rfl) (by simp) ?_
          refine AllReadyH.cons rfl (fun K hK => ?_) ?_
          · rw [if_pos (by rfl)]
            refine hp10.out.op hk10 hev (Operand.tmp 32) (Operand.tmp 34) rfl rfl rfl (fun va11 wa11 hq11 => ?_)
            have hp11 := hide hq11
            clear hq11
            try go_simp
            refine hK.out _ _ hp11.out.lab.c1 (fun hHeld => ?_)
            clear hK K
            try simp only [Act.put, List.getElem_toArray, List.getElem_cons_succ, List.getElem_cons_zero, List.setIfInBounds_toArray, List.set_cons_zero, List.set_cons_succ]
            refine wpAnyH_ready (rs := [11]) (by kernel_rfl) (by simp) ?_
            refine AllReadyH.cons rfl (fun K hK => ?_) AllReadyH.nil
            obtain ⟨wz, hrz, hlz, hiz, hbz⟩ := hp11.out.tell HF.out hv hN
            go_simp
            refine hK.out _ _ hlz.c1 (fun hHeld => ?_)
            clear hK K hrz
            refine wpAnyH_done (by kernel_rfl) ?_ _
            go_wp2
            go_end0
            exact ⟨rfl, (by obtain ⟨F1, G1, h1⟩ := hiz; exact ⟨F1, G1, h1.mono (by omega)⟩), hbz⟩
          exact AllReadyH.nil
        exact AllReadyH.nil
      refine AllReadyH.cons rfl (fun K hK => ?_) ?_
      · have hp12 := hide (hpd.out.make (.cells #[.int .i64 x] 3))
        have hk12 : ((wd).alloc (.cells #[.int .i64 x] 3)).cell? ⟨(wd).heap.size, 0, none⟩ = some (.int .i64 x) := by simp
        go_simp
        refine hK.out _ _ hp12.out.lab.c1 (fun hHeld => ?_)
        clear hK K
        try simp only [Act.put, List.getElem_toArray, List.getElem_cons_succ, List.getElem_cons_zero, List.setIfInBounds_toArray, List.set_cons_zero, List.set_cons_succ]
        generalize hz12 : (wd).heap.size = bz12 at hk12 ⊢
        clear hz12
        generalize (wd).alloc (.cells #[.int .i64 x] 3) = wm12 at hp12 hk12 hHeld ⊢
        refine wpAnyH_ready (rs := [3]) (by kernel_rfl) (by simp) ?_
        refine AllReadyH.cons rfl (fun K hK => ?_) ?_
        · go_simp
          refine (HC.out _).mono ?_
          rintro e wc13 ⟨rfl, hc13⟩
          try go_simp
          have hp13 := hide (hp12.out.next hc13)
          have hk13 := keep_cell hk12 hc13
          refine hK.out _ _ hp13.out.lab.c1 (fun hHeld => ?_)
          clear hK K
          try simp only [Act.put, List.getElem_toArray, List.getElem_cons_succ, List.getElem_cons_zero, List.setIfInBounds_toArray, List.set_cons_zero, List.set_cons_succ]
          refine wpAnyH_ready (rs := [10]) (by kernel_rfl) (by simp) ?_
          refine AllReadyH.cons rfl (fun K hK => ?_) ?_
          · rw [if_pos (by rfl)]
            refine hp13.out.op hk13 hev (Operand.tmp 32) (Operand.tmp 34) rfl rfl rfl (fun va14 wa14 hq14 => ?_)
            have hp14 := hide hq14
            clear hq14
            try go_simp
            refine hK.out _ _ hp14.out.lab.c1 (fun hHeld => ?_)
            clear hK K
            try simp only [Act.put, List.getElem_toArray, List.getElem_cons_succ, List.getElem_cons_zero, List.setIfInBounds_toArray, List.set_cons_zero, List.set_cons_succ]
            refine wpAnyH_ready (rs := [11]) (by kernel_rfl) (by simp) ?_
            refine AllReadyH.cons rfl (fun K hK => ?_) AllReadyH.nil
            obtain ⟨wz, hrz, hlz, hiz, hbz⟩ := hp14.out.tell HF.out hv hN
            go_simp
            refine hK.out _ _ hlz.c1 (fun hHeld => ?_)
            clear hK K hrz
            refine wpAnyH_done (by kernel_rfl) ?_ _
            go_wp2
            go_end0
            exact ⟨rfl, (by obtain ⟨F1, G1, h1⟩ := hiz; exact ⟨F1, G1, h1.mono (by omega)⟩), hbz⟩
          exact AllReadyH.nil
        exact AllReadyH.nil
      exact AllReadyH.nil
    refine AllReadyH.cons rfl (fun K hK => ?_) ?_
    · have hp15 := hide (hpd.out.make (.cells #[.int .i64 x] 3))
      have hk15 : ((wd).alloc (.cells #[.int .i64 x] 3)).cell? ⟨(wd).heap.size, 0, none⟩ = some (.int .i64 x) := by simp
      go_simp
      refine hK.out _ _ hp15.out.lab.c1 (fun hHeld => ?_)
      clear hK K
      try simp only [Act.put, List.getElem_toArray, List.getElem_cons_succ, List.getElem_cons_zero, List.setIfInBounds_toArray, List.set_cons_zero, List.set_cons_succ]
      generalize hz15 : (wd).heap.size = bz15 at hk15 ⊢
      clear hz15
      generalize (wd).alloc (.cells #[.int .i64 x] 3) = wm15 at hp15 hk15 hHeld ⊢
      refine wpAnyH_ready (rs := [3, 7]) (by kernel_rfl) (by simp) ?_
      refine AllReadyH.cons rfl (fun K hK => ?_) ?_
      · go_simp
        refine (HC.out _).mono ?_
        rintro e wc16 ⟨rfl, hc16⟩
        try go_simp
        have hp16 := hide (hp15.out.next hc16)
        have hk16 := keep_cell hk15 hc16
        refine hK.out _ _ hp16.out.lab.c1 (fun hHeld => ?_)
        clear hK K
        try simp only [Act.put, List.getElem_toArray, List.getElem_cons_succ, List.getElem_cons_zero, List.setIfInBounds_toArray, List.set_cons_zero, List.set_cons_succ]
        refine wpAnyH_ready (rs := [7]) (by kernel_rfl) (by simp) ?_
        refine AllReadyH.cons rfl (fun K hK => ?_) ?_
        · have hl17 := hp16.out.idx.lookV HF.out v hv
          go_simp
          refine hK.out _ _ hp16.out.lab.c1 (fun hHeld => ?_)
          clear hK K hl17
          try simp only [Act.put, List.getElem_toArray, List.getElem_cons_succ, List.getElem_cons_zero, List.setIfInBounds_toArray, List.set_cons_zero, List.set_cons_succ]
          refine wpAnyH_ready (rs := [10]) (by kernel_rfl) (by simp) ?_
          refine AllReadyH.cons rfl (fun K hK => ?_) ?_
          · rw [if_pos (by rfl)]
            refine hp16.out.op hk16 hev (Operand.tmp 32) (Operand.tmp 34) rfl rfl rfl (fun va18 wa18 hq18 => ?_)
            have hp18 := hide hq18
            clear hq18
            try go_simp
            refine hK.out _ _ hp18.out.lab.c1 (fun hHeld => ?_)
            clear hK K
            try simp only [Act.put, List.getElem_toArray, List.getElem_cons_succ, List.getElem_cons_zero, List.setIfInBounds_toArray, List.set_cons_zero, List.set_cons_succ]
            refine wpAnyH_ready (rs := [11]) (by kernel_rfl) (by simp) ?_
            refine AllReadyH.cons rfl (fun K hK => ?_) AllReadyH.nil
            obtain ⟨wz, hrz, hlz, hiz, hbz⟩ := hp18.out.tell HF.out hv hN
            go_simp
            refine hK.out _ _ hlz.c1 (fun hHeld => ?_)
            clear hK K hrz
            refine wpAnyH_done (by kernel_rfl) ?_ _
            go_wp2
            go_end0
            exact ⟨rfl, (by obtain ⟨F1, G1, h1⟩ := hiz; exact ⟨F1, G1, h1.mono (by omega)⟩), hbz⟩
          exact AllReadyH.nil
        exact AllReadyH.nil
      refine AllReadyH.cons rfl (fun K hK => ?_) ?_
      · have hl19 := hp15.out.idx.lookV HF.out v hv
        go_simp
        refine hK.out _ _ hp15.out.lab.c1 (fun hHeld => ?_)
        clear hK K hl19
        try simp only [Act.put, List.getElem_toArray, List.getElem_cons_succ, List.getElem_cons_zero, List.setIfInBounds_toArray, List.set_cons_zero, List.set_cons_succ]
        refine wpAnyH_ready (rs := [3]) (by kernel_rfl) (by simp) ?_
        refine AllReadyH.cons rfl (fun K hK => ?_) ?_
        · go_simp
          refine (HC.out _).mono ?_
          rintro e wc20 ⟨rfl, hc20⟩
          try go_simp
          have hp20 := hide (hp15.out.next hc20)
          have hk20 := keep_cell hk15 hc20
          refine hK.out _ _ hp20.out.lab.c1 (fun hHeld => ?_)
          clear hK K
          try simp only [Act.put, List.getElem_toArray, List.getElem_cons_succ, List.getElem_cons_zero, List.setIfInBounds_toArray, List.set_cons_zero, List.set_cons_succ]
          refine wpAnyH_ready (rs := [10]) (by kernel_rfl) (by simp) ?_
          refine AllReadyH.cons rfl (fun K hK => ?_) ?_
          · rw [if_pos (by rfl)]
            refine hp20.out.op hk20 hev (Operand.tmp 32) (Operand.tmp 34) rfl rfl rfl (fun va21 wa21 hq21 => ?_)
            have hp21 := hide hq21
            clear hq21
            try go_simp
            refine hK.out _ _ hp21.out.lab.c1 (fun hHeld => ?_)
            clear hK K
            try simp only [Act.put, List.getElem_toArray, List.getElem_cons_succ, List.getElem_cons_zero, List.setIfInBounds_toArray, List.set_cons_zero, List.set_cons_succ]
            refine wpAnyH_ready (rs := [11]) (by kernel_rfl) (by simp) ?_
            refine AllReadyH.cons rfl (fun K hK => ?_) AllReadyH.nil
            obtain ⟨wz, hrz, hlz, hiz, hbz⟩ := hp21.out.tell HF.out hv hN
            go_simp
            refine hK.out _ _ hlz.c1 (fun hHeld => ?_)
            clear hK K hrz
            refine wpAnyH_done (by kernel_rfl) ?_ _
            go_wp2
            go_end0
            exact ⟨rfl, (by obtain ⟨F1, G1, h1⟩ := hiz; exact ⟨F1, G1, h1.mono (by omega)⟩), hbz⟩
          exact AllReadyH.nil
        exact AllReadyH.nil
      exact AllReadyH.nil
    exact AllReadyH.nil
  | some b =>
    rw [hF] at hl1
    have HF := hide hF
    have hN : N ≤ 1000000 := by omega
    go_quiet (fail)
    have HQ := hide (HP.out.next (below_dn (Below.refl _ _) nq))
    generalize w1.drewN nq = w2 at HQ ⊢
    clear HP hl1 hc0 hc1
    have hEq := eqM_some b w2
    go_wp2
    clear hEq
    refine wp_region_held_drew (S := fun wx => wx.cell? ⟨ob, 1, none⟩ = some (.string v)) (by kernel_rfl) HQ.out.lab.c1 (fun hHeld => ?_)
    refine wpAnyH_take (i := 0) (v := ?v15) rfl (by kernel_rfl) (by kernel_rfl) (by kernel_rfl) (fun _ _ _ h => h) (Or.inl ⟨by rfl, ?hy15⟩) (by assumption) ?rest15
    case hy15 =>
      intro wx hSw
      have hSx : wx.cell? ⟨ob, 1, none⟩ = some (.string v) := hSw
      go_simp
      all_goals with_reducible rfl
    try simp only [Act.put, List.getElem_toArray, List.getElem_cons_succ, List.getElem_cons_zero, List.setIfInBounds_toArray, List.set_cons_zero, List.set_cons_succ]
    refine wpAnyH_take (i := 1) (v := ?v16) rfl (by kernel_rfl) (by kernel_rfl) (by kernel_rfl) (fun _ _ _ h => h) (Or.inl ⟨by rfl, ?hy16⟩) (by assumption) ?rest16
    case hy16 =>
      intro wx hSw
      have hSx : wx.cell? ⟨ob, 1, none⟩ = some (.string v) := hSw
      go_simp
      all_goals with_reducible rfl
    try simp only [Act.put, List.getElem_toArray, List.getElem_cons_succ, List.getElem_cons_zero, List.setIfInBounds_toArray, List.set_cons_zero, List.set_cons_succ]
    refine wpAnyH_take (i := 2) (v := ?v17) rfl (by kernel_rfl) (by kernel_rfl) (by kernel_rfl) (fun _ _ _ h => h) (Or.inl ⟨by rfl, ?hy17⟩) (by assumption) ?rest17
    case hy17 =>
      intro wx hSw
      have hSx : wx.cell? ⟨ob, 1, none⟩ = some (.string v) := hSw
      go_simp
      all_goals with_reducible rfl
    try simp only [Act.put, List.getElem_toArray, List.getElem_cons_succ, List.getElem_cons_zero, List.setIfInBounds_toArray, List.set_cons_zero, List.set_cons_succ]
    refine wpAnyH_take (i := 4) (v := ?v18) rfl (by kernel_rfl) (by kernel_rfl) (by kernel_rfl) (fun _ _ _ h => h) (Or.inl ⟨by rfl, ?hy18⟩) (by assumption) ?rest18
    case hy18 =>
      intro wx hSw
      have hSx : wx.cell? ⟨ob, 1, none⟩ = some (.string v) := hSw
      go_simp
      all_goals with_reducible rfl
    try simp only [Act.put, List.getElem_toArray, List.getElem_cons_succ, List.getElem_cons_zero, List.setIfInBounds_toArray, List.set_cons_zero, List.set_cons_succ]
    refine wpAnyH_take (i := 5) (v := ?v19) rfl (by kernel_rfl) (by kernel_rfl) (by kernel_rfl) (fun _ _ _ h => h) (Or.inl ⟨by rfl, ?hy19⟩) (by assumption) ?rest19
    case hy19 =>
      intro wx hSw
      have hSx : wx.cell? ⟨ob, 1, none⟩ = some (.string v) := hSw
      go_simp
      all_goals with_reducible rfl
    try simp only [Act.put, List.getElem_toArray, List.getElem_cons_succ, List.getElem_cons_zero, List.setIfInBounds_toArray, List.set_cons_zero, List.set_cons_succ]
    refine wpAnyH_take (i := 6) (v := ?v20) rfl (by kernel_rfl) (by kernel_rfl) (by kernel_rfl) (fun _ _ _ h => h) (Or.inl ⟨by rfl, ?hy20⟩) (by assumption) ?rest20
    case hy20 =>
      intro wx hSw
      have hSx : wx.cell? ⟨ob, 1, none⟩ = some (.string v) := hSw
      go_simp
      all_goals with_reducible rfl
    try simp only [Act.put, List.getElem_toArray, List.getElem_cons_succ, List.getElem_cons_zero, List.setIfInBounds_toArray, List.set_cons_zero, List.set_cons_succ]
    refine wpAnyH_take (i := 8) (v := ?v21) rfl (by kernel_rfl) (by kernel_rfl) (by kernel_rfl) (fun _ _ _ h => h) (Or.inl ⟨by rfl, ?hy21⟩) (by assumption) ?rest21
    case hy21 =>
      intro wx hSw
      have hSx : wx.cell? ⟨ob, 1, none⟩ = some (.string v) := hSw
      go_simp
      all_goals with_reducible rfl
    try simp only [Act.put, List.getElem_toArray, List.getElem_cons_succ, List.getElem_cons_zero, List.setIfInBounds_toArray, List.set_cons_zero, List.set_cons_succ]
    have hpd := hide (HQ.out.next (Below.refl _ _).drew)
    generalize (w2).drew = wd at hpd hHeld ⊢
    clear HQ
    refine wpAnyH_ready (rs := [3, 7, 9]) (by kernel_rfl) (by simp) ?_
    refine AllReadyH.cons rfl (fun K hK => ?_) ?_
    · go_simp
      refine (HC.out _).mono ?_
      rintro e wc22 ⟨rfl, hc22⟩
      try go_simp
      have hp22 := hide (hpd.out.next hc22)
      refine hK.out _ _ hp22.out.lab.c1 (fun hHeld => ?_)
      clear hK K
      try simp only [Act.put, List.getElem_toArray, List.getElem_cons_succ, List.getElem_cons_zero, List.setIfInBounds_toArray, List.set_cons_zero, List.set_cons_succ]
      refine wpAnyH_ready (rs := [7, 9]) (by kernel_rfl) (by simp) ?_
      refine AllReadyH.cons rfl (fun K hK => ?_) ?_
      · have hl23 := hp22.out.idx.lookV HF.out v hv
        go_simp
        refine hK.out _ _ hp22.out.lab.c1 (fun hHeld => ?_)
        clear hK K hl23
        try simp only [Act.put, List.getElem_toArray, List.getElem_cons_succ, List.getElem_cons_zero, List.setIfInBounds_toArray, List.set_cons_zero, List.set_cons_succ]
        refine wpAnyH_ready (rs := [9]) (by kernel_rfl) (by simp) ?_
        refine AllReadyH.cons rfl (fun K hK => ?_) ?_
        · have hp24 := hide (hp22.out.make (.cells #[.int .i64 x] 3))
          have hk24 : ((wc22).alloc (.cells #[.int .i64 x] 3)).cell? ⟨(wc22).heap.size, 0, none⟩ = some (.int .i64 x) := by simp
          go_simp
          refine hK.out _ _ hp24.out.lab.c1 (fun hHeld => ?_)
          clear hK K
          try simp only [Act.put, List.getElem_toArray, List.getElem_cons_succ, List.getElem_cons_zero, List.setIfInBounds_toArray, List.set_cons_zero, List.set_cons_succ]
          generalize hz24 : (wc22).heap.size = bz24 at hk24 ⊢
          clear hz24
          generalize (wc22).alloc (.cells #[.int .i64 x] 3) = wm24 at hp24 hk24 hHeld ⊢
          refine wpAnyH_ready (rs := [10]) (by kernel_rfl) (by simp) ?_
          refine AllReadyH.cons rfl (fun K hK => ?_) ?_
          · rw [if_pos (by rfl)]
            refine hp24.out.op hk24 hev (Operand.tmp 32) (Operand.tmp 34) rfl rfl rfl (fun va25 wa25 hq25 => ?_)
            have hp25 := hide hq25
            clear hq25
            try go_simp
            refine hK.out _ _ hp25.out.lab.c1 (fun hHeld => ?_)
            clear hK K
            try simp only [Act.put, List.getElem_toArray, List.getElem_cons_succ, List.getElem_cons_zero, List.setIfInBounds_toArray, List.set_cons_zero, List.set_cons_succ]
            refine wpAnyH_ready (rs := [11]) (by kernel_rfl) (by simp) ?_
            refine AllReadyH.cons rfl (fun K hK => ?_) AllReadyH.nil
            obtain ⟨wz, hrz, hlz, hiz, hbz⟩ := hp25.out.tell HF.out hv hN
            go_simp
            refine hK.out _ _ hlz.c1 (fun hHeld => ?_)
            clear hK K hrz
            refine wpAnyH_done (by kernel_rfl) ?_ _
            go_wp2
            go_end0
            exact ⟨rfl, (by obtain ⟨F1, G1, h1⟩ := hiz; exact ⟨F1, G1, h1.mono (by omega)⟩), hbz⟩
          exact AllReadyH.nil
        exact AllReadyH.nil
      refine AllReadyH.cons rfl (fun K hK => ?_) ?_
      · have hp26 := hide (hp22.out.make (.cells #[.int .i64 x] 3))
        have hk26 : ((wc22).alloc (.cells #[.int .i64 x] 3)).cell? ⟨(wc22).heap.size, 0, none⟩ = some (.int .i64 x) := by simp
        go_simp
        refine hK.out _ _ hp26.out.lab.c1 (fun hHeld => ?_)
        clear hK K
        try simp only [Act.put, List.getElem_toArray, List.getElem_cons_succ, List.getElem_cons_zero, List.setIfInBounds_toArray, List.set_cons_zero, List.set_cons_succ]
        generalize hz26 : (wc22).heap.size = bz26 at hk26 ⊢
        clear hz26
        generalize (wc22).alloc (.cells #[.int .i64 x] 3) = wm26 at hp26 hk26 hHeld ⊢
        refine wpAnyH_ready (rs := [7]) (by kernel_rfl) (by simp) ?_
        refine AllReadyH.cons rfl (fun K hK => ?_) ?_
        · have hl27 := hp26.out.idx.lookV HF.out v hv
          go_simp
          refine hK.out _ _ hp26.out.lab.c1 (fun hHeld => ?_)
          clear hK K hl27
          try simp only [Act.put, List.getElem_toArray, List.getElem_cons_succ, List.getElem_cons_zero, List.setIfInBounds_toArray, List.set_cons_zero, List.set_cons_succ]
          refine wpAnyH_ready (rs := [10]) (by kernel_rfl) (by simp) ?_
          refine AllReadyH.cons rfl (fun K hK => ?_) ?_
          · rw [if_pos (by rfl)]
            refine hp26.out.op hk26 hev (Operand.tmp 32) (Operand.tmp 34) rfl rfl rfl (fun va28 wa28 hq28 => ?_)
            have hp28 := hide hq28
            clear hq28
            try go_simp
            refine hK.out _ _ hp28.out.lab.c1 (fun hHeld => ?_)
            clear hK K
            try simp only [Act.put, List.getElem_toArray, List.getElem_cons_succ, List.getElem_cons_zero, List.setIfInBounds_toArray, List.set_cons_zero, List.set_cons_succ]
            refine wpAnyH_ready (rs := [11]) (by kernel_rfl) (by simp) ?_
            refine AllReadyH.cons rfl (fun K hK => ?_) AllReadyH.nil
            obtain ⟨wz, hrz, hlz, hiz, hbz⟩ := hp28.out.tell HF.out hv hN
            go_simp
            refine hK.out _ _ hlz.c1 (fun hHeld => ?_)
            clear hK K hrz
            refine wpAnyH_done (by kernel_rfl) ?_ _
            go_wp2
            go_end0
            exact ⟨rfl, (by obtain ⟨F1, G1, h1⟩ := hiz; exact ⟨F1, G1, h1.mono (by omega)⟩), hbz⟩
          exact AllReadyH.nil
        exact AllReadyH.nil
      exact AllReadyH.nil
    refine AllReadyH.cons rfl (fun K hK => ?_) ?_
    · have hl29 := hpd.out.idx.lookV HF.out v hv
      go_simp
      refine hK.out _ _ hpd.out.lab.c1 (fun hHeld => ?_)
      clear hK K hl29
      try simp only [Act.put, List.getElem_toArray, List.getElem_cons_succ, List.getElem_cons_zero, List.setIfInBounds_toArray, List.set_cons_zero, List.set_cons_succ]
      refine wpAnyH_ready (rs := [3, 9]) (by kernel_rfl) (by simp) ?_
      refine AllReadyH.cons rfl (fun K hK => ?_) ?_
      · go_simp
        refine (HC.out _).mono ?_
        rintro e wc30 ⟨rfl, hc30⟩
        try go_simp
        have hp30 := hide (hpd.out.next hc30)
        refine hK.out _ _ hp30.out.lab.c1 (fun hHeld => ?_)
        clear hK K
        try simp only [Act.put, List.getElem_toArray, List.getElem_cons_succ, List.getElem_cons_zero, List.setIfInBounds_toArray, List.set_cons_zero, List.set_cons_succ]
        refine wpAnyH_ready (rs := [9]) (by kernel_rfl) (by simp) ?_
        refine AllReadyH.cons rfl (fun K hK => ?_) ?_
        · have hp31 := hide (hp30.out.make (.cells #[.int .i64 x] 3))
          have hk31 : ((wc30).alloc (.cells #[.int .i64 x] 3)).cell? ⟨(wc30).heap.size, 0, none⟩ = some (.int .i64 x) := by simp
          go_simp
          refine hK.out _ _ hp31.out.lab.c1 (fun hHeld => ?_)
          clear hK K
          try simp only [Act.put, List.getElem_toArray, List.getElem_cons_succ, List.getElem_cons_zero, List.setIfInBounds_toArray, List.set_cons_zero, List.set_cons_succ]
          generalize hz31 : (wc30).heap.size = bz31 at hk31 ⊢
          clear hz31
          generalize (wc30).alloc (.cells #[.int .i64 x] 3) = wm31 at hp31 hk31 hHeld ⊢
          refine wpAnyH_ready (rs := [10]) (by kernel_rfl) (by simp) ?_
          refine AllReadyH.cons rfl (fun K hK => ?_) ?_
          · rw [if_pos (by rfl)]
            refine hp31.out.op hk31 hev (Operand.tmp 32) (Operand.tmp 34) rfl rfl rfl (fun va32 wa32 hq32 => ?_)
            have hp32 := hide hq32
            clear hq32
            try go_simp
            refine hK.out _ _ hp32.out.lab.c1 (fun hHeld => ?_)
            clear hK K
            try simp only [Act.put, List.getElem_toArray, List.getElem_cons_succ, List.getElem_cons_zero, List.setIfInBounds_toArray, List.set_cons_zero, List.set_cons_succ]
            refine wpAnyH_ready (rs := [11]) (by kernel_rfl) (by simp) ?_
            refine AllReadyH.cons rfl (fun K hK => ?_) AllReadyH.nil
            obtain ⟨wz, hrz, hlz, hiz, hbz⟩ := hp32.out.tell HF.out hv hN
            go_simp
            refine hK.out _ _ hlz.c1 (fun hHeld => ?_)
            clear hK K hrz
            refine wpAnyH_done (by kernel_rfl) ?_ _
            go_wp2
            go_end0
            exact ⟨rfl, (by obtain ⟨F1, G1, h1⟩ := hiz; exact ⟨F1, G1, h1.mono (by omega)⟩), hbz⟩
          exact AllReadyH.nil
        exact AllReadyH.nil
      refine AllReadyH.cons rfl (fun K hK => ?_) ?_
      · have hp33 := hide (hpd.out.make (.cells #[.int .i64 x] 3))
        have hk33 : ((wd).alloc (.cells #[.int .i64 x] 3)).cell? ⟨(wd).heap.size, 0, none⟩ = some (.int .i64 x) := by simp
        go_simp
        refine hK.out _ _ hp33.out.lab.c1 (fun hHeld => ?_)
        clear hK K
        try simp only [Act.put, List.getElem_toArray, List.getElem_cons_succ, List.getElem_cons_zero, List.setIfInBounds_toArray, List.set_cons_zero, List.set_cons_succ]
        generalize hz33 : (wd).heap.size = bz33 at hk33 ⊢
        clear hz33
        generalize (wd).alloc (.cells #[.int .i64 x] 3) = wm33 at hp33 hk33 hHeld ⊢
        refine wpAnyH_ready (rs := [3]) (by kernel_rfl) (by simp) ?_
        refine AllReadyH.cons rfl (fun K hK => ?_) ?_
        · go_simp
          refine (HC.out _).mono ?_
          rintro e wc34 ⟨rfl, hc34⟩
          try go_simp
          have hp34 := hide (hp33.out.next hc34)
          have hk34 := keep_cell hk33 hc34
          refine hK.out _ _ hp34.out.lab.c1 (fun hHeld => ?_)
          clear hK K
          try simp only [Act.put, List.getElem_toArray, List.getElem_cons_succ, List.getElem_cons_zero, List.setIfInBounds_toArray, List.set_cons_zero, List.set_cons_succ]
          refine wpAnyH_ready (rs := [10]) (by kernel_rfl) (by simp) ?_
          refine AllReadyH.cons rfl (fun K hK => ?_) ?_
          · rw [if_pos (by rfl)]
            refine hp34.out.op hk34 hev (Operand.tmp 32) (Operand.tmp 34) rfl rfl rfl (fun va35 wa35 hq35 => ?_)
            have hp35 := hide hq35
            clear hq35
            try go_simp
            refine hK.out _ _ hp35.out.lab.c1 (fun hHeld => ?_)
            clear hK K
            try simp only [Act.put, List.getElem_toArray, List.getElem_cons_succ, List.getElem_cons_zero, List.setIfInBounds_toArray, List.set_cons_zero, List.set_cons_succ]
            refine wpAnyH_ready (rs := [11]) (by kernel_rfl) (by simp) ?_
            refine AllReadyH.cons rfl (fun K hK => ?_) AllReadyH.nil
            obtain ⟨wz, hrz, hlz, hiz, hbz⟩ := hp35.out.tell HF.out hv hN
            go_simp
            refine hK.out _ _ hlz.c1 (fun hHeld => ?_)
            clear hK K hrz
            refine wpAnyH_done (by kernel_rfl) ?_ _
            go_wp2
            go_end0
            exact ⟨rfl, (by obtain ⟨F1, G1, h1⟩ := hiz; exact ⟨F1, G1, h1.mono (by omega)⟩), hbz⟩
          exact AllReadyH.nil
        exact AllReadyH.nil
      exact AllReadyH.nil
    refine AllReadyH.cons rfl (fun K hK => ?_) ?_
    · have hp36 := hide (hpd.out.make (.cells #[.int .i64 x] 3))
      have hk36 : ((wd).alloc (.cells #[.int .i64 x] 3)).cell? ⟨(wd).heap.size, 0, none⟩ = some (.int .i64 x) := by simp
      go_simp
      refine hK.out _ _ hp36.out.lab.c1 (fun hHeld => ?_)
      clear hK K
      try simp only [Act.put, List.getElem_toArray, List.getElem_cons_succ, List.getElem_cons_zero, List.setIfInBounds_toArray, List.set_cons_zero, List.set_cons_succ]
      generalize hz36 : (wd).heap.size = bz36 at hk36 ⊢
      clear hz36
      generalize (wd).alloc (.cells #[.int .i64 x] 3) = wm36 at hp36 hk36 hHeld ⊢
      refine wpAnyH_ready (rs := [3, 7]) (by kernel_rfl) (by simp) ?_
      refine AllReadyH.cons rfl (fun K hK => ?_) ?_
      · go_simp
        refine (HC.out _).mono ?_
        rintro e wc37 ⟨rfl, hc37⟩
        try go_simp
        have hp37 := hide (hp36.out.next hc37)
        have hk37 := keep_cell hk36 hc37
        refine hK.out _ _ hp37.out.lab.c1 (fun hHeld => ?_)
        clear hK K
        try simp only [Act.put, List.getElem_toArray, List.getElem_cons_succ, List.getElem_cons_zero, List.setIfInBounds_toArray, List.set_cons_zero, List.set_cons_succ]
        refine wpAnyH_ready (rs := [7]) (by kernel_rfl) (by simp) ?_
        refine AllReadyH.cons rfl (fun K hK => ?_) ?_
        · have hl38 := hp37.out.idx.lookV HF.out v hv
          go_simp
          refine hK.out _ _ hp37.out.lab.c1 (fun hHeld => ?_)
          clear hK K hl38
          try simp only [Act.put, List.getElem_toArray, List.getElem_cons_succ, List.getElem_cons_zero, List.setIfInBounds_toArray, List.set_cons_zero, List.set_cons_succ]
          refine wpAnyH_ready (rs := [10]) (by kernel_rfl) (by simp) ?_
          refine AllReadyH.cons rfl (fun K hK => ?_) ?_
          · rw [if_pos (by rfl)]
            refine hp37.out.op hk37 hev (Operand.tmp 32) (Operand.tmp 34) rfl rfl rfl (fun va39 wa39 hq39 => ?_)
            have hp39 := hide hq39
            clear hq39
            try go_simp
            refine hK.out _ _ hp39.out.lab.c1 (fun hHeld => ?_)
            clear hK K
            try simp only [Act.put, List.getElem_toArray, List.getElem_cons_succ, List.getElem_cons_zero, List.setIfInBounds_toArray, List.set_cons_zero, List.set_cons_succ]
            refine wpAnyH_ready (rs := [11]) (by kernel_rfl) (by simp) ?_
            refine AllReadyH.cons rfl (fun K hK => ?_) AllReadyH.nil
            obtain ⟨wz, hrz, hlz, hiz, hbz⟩ := hp39.out.tell HF.out hv hN
            go_simp
            refine hK.out _ _ hlz.c1 (fun hHeld => ?_)
            clear hK K hrz
            refine wpAnyH_done (by kernel_rfl) ?_ _
            go_wp2
            go_end0
            exact ⟨rfl, (by obtain ⟨F1, G1, h1⟩ := hiz; exact ⟨F1, G1, h1.mono (by omega)⟩), hbz⟩
          exact AllReadyH.nil
        exact AllReadyH.nil
      refine AllReadyH.cons rfl (fun K hK => ?_) ?_
      · have hl40 := hp36.out.idx.lookV HF.out v hv
        go_simp
        refine hK.out _ _ hp36.out.lab.c1 (fun hHeld => ?_)
        clear hK K hl40
        try simp only [Act.put, List.getElem_toArray, List.getElem_cons_succ, List.getElem_cons_zero, List.setIfInBounds_toArray, List.set_cons_zero, List.set_cons_succ]
        refine wpAnyH_ready (rs := [3]) (by kernel_rfl) (by simp) ?_
        refine AllReadyH.cons rfl (fun K hK => ?_) ?_
        · go_simp
          refine (HC.out _).mono ?_
          rintro e wc41 ⟨rfl, hc41⟩
          try go_simp
          have hp41 := hide (hp36.out.next hc41)
          have hk41 := keep_cell hk36 hc41
          refine hK.out _ _ hp41.out.lab.c1 (fun hHeld => ?_)
          clear hK K
          try simp only [Act.put, List.getElem_toArray, List.getElem_cons_succ, List.getElem_cons_zero, List.setIfInBounds_toArray, List.set_cons_zero, List.set_cons_succ]
          refine wpAnyH_ready (rs := [10]) (by kernel_rfl) (by simp) ?_
          refine AllReadyH.cons rfl (fun K hK => ?_) ?_
          · rw [if_pos (by rfl)]
            refine hp41.out.op hk41 hev (Operand.tmp 32) (Operand.tmp 34) rfl rfl rfl (fun va42 wa42 hq42 => ?_)
            have hp42 := hide hq42
            clear hq42
            try go_simp
            refine hK.out _ _ hp42.out.lab.c1 (fun hHeld => ?_)
            clear hK K
            try simp only [Act.put, List.getElem_toArray, List.getElem_cons_succ, List.getElem_cons_zero, List.setIfInBounds_toArray, List.set_cons_zero, List.set_cons_succ]
            refine wpAnyH_ready (rs := [11]) (by kernel_rfl) (by simp) ?_
            refine AllReadyH.cons rfl (fun K hK => ?_) AllReadyH.nil
            obtain ⟨wz, hrz, hlz, hiz, hbz⟩ := hp42.out.tell HF.out hv hN
            go_simp
            refine hK.out _ _ hlz.c1 (fun hHeld => ?_)
            clear hK K hrz
            refine wpAnyH_done (by kernel_rfl) ?_ _
            go_wp2
            go_end0
            exact ⟨rfl, (by obtain ⟨F1, G1, h1⟩ := hiz; exact ⟨F1, G1, h1.mono (by omega)⟩), hbz⟩
          exact AllReadyH.nil
        exact AllReadyH.nil
      exact AllReadyH.nil
    exact AllReadyH.nil
end Go.Proofs.Ytlghnnmgbdjgoaa
