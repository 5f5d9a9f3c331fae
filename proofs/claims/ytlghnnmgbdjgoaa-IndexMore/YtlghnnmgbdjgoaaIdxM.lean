/- Maps by their keys' texts: what each holds, as a value; the index: maps in a map, with rows of numbers. -/
import Derived.Test.YtlghnnmgbdjgoaaSetS
import Derived.Maps.Range
import Derived.Maps.RangeWalk
import Derived.StringKeys
namespace Go.Proofs.Ytlghnnmgbdjgoaa
open Go.RowKit Go.Maps Go.ChangeMaps Go.WideMaps
set_option linter.unusedVariables false
/-- How an element is told: as itself. -/
def RT (v : Value) : Option (DataW Value × List MemPlace) := some (.held v, [])
theorem keyS : Keyed Try.prog 9 := string_keyed Try.underlying9
theorem keyOfS (s : ByteArray) (hs : s.size ≤ 9223372036854775807) : keyOf Try.prog 9 (.string s) = some (.string s.data.toList) := keyOf_string_mk Try.underlying9 (by unfold maxLen; exact hs)
theorem litS {s s' : ByteArray} (h : s ≠ s') : (Lit.string s.data.toList) ≠ .string s'.data.toList := by
  intro e
  simp only [Lit.string.injEq] at e
  exact h (by cases s; cases s'; simp at e; rw [e])
/-- Block b is a map from texts, of at most n entries: what each text holds; z where nothing stands. -/
def MapIs (w : World) (b n : Nat) (z : Value) (f : ByteArray → Value) : Prop :=
  ∃ D : DataW Value, w.ownsMap Try.prog 9 RT b n D ∧ (∀ s : ByteArray, D.atKey (.string s.data.toList) (.held z) = .held (f s)) ∧ ∀ s : ByteArray, Maps.has D (.string s.data.toList) = true → f s ≠ z
theorem MapIs.made (w : World) (z : Value) : MapIs (w.alloc (.map #[] 0)) w.heap.size 0 z (fun _ => z) :=
  ⟨_, World.ownsMap_made w Try.prog 9 RT, fun s => by simp [DataW.atKey], fun s h => by simp [Maps.has] at h⟩
theorem MapIs.lt {w : World} {b n : Nat} {z : Value} {f : ByteArray → Value} (h : MapIs w b n z f) : b < w.heap.size := by obtain ⟨D, h, _⟩ := h; exact h.lt
theorem MapIs.isMap {w : World} {b n : Nat} {z : Value} {f : ByteArray → Value} (h : MapIs w b n z f) : ∃ es c, w.heap[b]? = some (.map es c) := by obtain ⟨D, ⟨es, c, h, _⟩, _⟩ := h; exact ⟨es, c, h⟩
theorem MapIs.kept {w w' : World} {b n : Nat} {z : Value} {f : ByteArray → Value} {row : Option Nat} (h : MapIs w b n z f) (hg : w.grownBy w' row) (hne : some b ≠ row) : MapIs w' b n z f := by
  obtain ⟨D, h, h2, h3⟩ := h; exact ⟨D, h.kept hg hne, h2, h3⟩
theorem MapIs.mono {w : World} {b n n' : Nat} {z : Value} {f : ByteArray → Value} (h : MapIs w b n z f) (hn : n ≤ n') : MapIs w b n' z f := by
  obtain ⟨D, h, h2, h3⟩ := h; exact ⟨D, h.mono hn, h2, h3⟩
theorem MapIs.look {w : World} {b n : Nat} {z : Value} {f : ByteArray → Value} (h : MapIs w b n z f) {t e : TypeId} (ht : Try.prog.underlying t = some (.map 9 e)) (hz : (zeroValue e).run Try.prog w = .ok z w) (s : ByteArray) (hs : s.size ≤ 9223372036854775807) :
    (Instr.lookup t (.map (some b)) (.string s) false).run Try.prog w = .ok (f s) w := by
  obtain ⟨D, h, h2, _⟩ := h
  obtain ⟨v, ps, hrun, hv⟩ := h.lookup keyS ht hz (zd := .held z) (zp := []) rfl (keyOfS s hs)
  rw [h2 s] at hv
  simp only [RT, Option.some.injEq, Prod.mk.injEq, DataW.held.injEq] at hv
  rw [hrun, hv.1]
theorem MapIs.put {w : World} {b n : Nat} {z : Value} {f : ByteArray → Value} (h : MapIs w b n z f) {t e : TypeId} (ht : Try.prog.underlying t = some (.map 9 e)) (hn : n < 9223372036854775807) (s : ByteArray) (hs : s.size ≤ 9223372036854775807) (v : Value) (hvz : v ≠ z) :
    ∃ w', (Instr.mapUpdate t (.map (some b)) (.string s) v).run Try.prog w = .ok () w' ∧ MapIs w' b (n + 1) z (fun s' => if s' = s then v else f s') ∧ w.grownBy w' (some b) := by
  obtain ⟨D, h, h2, hp⟩ := h
  obtain ⟨w', hrun, h3, hg⟩ := h.update keyS ht (by unfold maxLen; exact hn) (keyOfS s hs) (d := .held v) (ps := []) rfl
  refine ⟨w', hrun, ⟨_, h3, fun s' => ?_, fun s' hh => ?_⟩, hg⟩
  · show _ = DataW.held (if s' = s then v else f s')
    by_cases e : s' = s
    · subst e
      rw [if_pos rfl, atKey_put_same h.isMap (keyS.key (keyOfS s' hs))]
    · rw [if_neg e, atKey_put_other (litS e), h2]
  · show (if s' = s then v else f s') ≠ z
    by_cases e : s' = s
    · rw [if_pos e]; exact hvz
    · rw [if_neg e]; rw [has_put_other (litS e)] at hh; exact hp s' hh
/-- One number that was told of a name and a value. -/
abbrev Ev := ByteArray × ByteArray × Int
def nums (ev : List Ev) (s v : ByteArray) : List Int := (ev.filter (fun e => decide (e.1 = s ∧ e.2.1 = v))).map (·.2.2)
theorem nums_snoc (ev : List Ev) (s v : ByteArray) (x : Int) (s' v' : ByteArray) : nums (ev ++ [(s, v, x)]) s' v' = if s' = s ∧ v' = v then nums ev s' v' ++ [x] else nums ev s' v' := by
  unfold nums
  rw [List.filter_append, List.map_append]
  by_cases h : s' = s ∧ v' = v
  · obtain ⟨rfl, rfl⟩ := h
    rw [if_pos ⟨rfl, rfl⟩, List.filter_cons_of_pos (by simp)]; rfl
  · rw [if_neg h, List.filter_cons_of_neg (by simp; exact fun e1 e2 => h ⟨e1.symm, e2.symm⟩)]; simp
theorem nums_len (ev : List Ev) (s v : ByteArray) : (nums ev s v).length ≤ ev.length := by unfold nums; rw [List.length_map]; exact List.length_filter_le _ _
/-- The index in memory: F where the values of a name lie, G the row of a name and a value. -/
structure Idx (w : World) (B bx bm N cnt : Nat) (F : ByteArray → Option Nat) (G : ByteArray → ByteArray → Value) (ev : List Ev) : Prop where
  lx : B ≤ bx
  lm : B ≤ bm
  box : w.heap[bx]? = some (.cells #[.int .i64 cnt, .map (some bm)] 64)
  out : MapIs w bm N (.map none) (fun s => .map (F s))
  inn : ∀ s b, F s = some b → MapIs w b N (.slice none 0 0) (G s) ∧ B ≤ b
  inj : ∀ s s' b, F s = some b → F s' = some b → s = s'
  nob : ∀ s, F s ≠ some bm
  non : ∀ s, F s = none → ∀ v, G s v = .slice none 0 0
  row : ∀ s v, OwnI w B (G s v) (nums ev s v)
  apart : ∀ s v s' v' g, (G s v).ownBlock = some g → (G s' v').ownBlock = some g → s = s' ∧ v = v'
  emp : ∀ s v, nums ev s v = [] → G s v = .slice none 0 0
theorem own_block {w : World} {B g : Nat} {v : Value} {l : List Int} (h : OwnI w B v l) (hv : v.ownBlock = some g) : ∃ cur, w.heap[g]? = some (.cells cur 3) := by
  rcases h.2 with ⟨rfl, _⟩ | ⟨g', cap, cur, rfl, _, hg, _⟩
  · cases hv
  · simp [Value.ownBlock] at hv; subst hv; exact ⟨cur, hg⟩
theorem Idx.mapNot {w : World} {B bx bm N cnt : Nat} {F : ByteArray → Option Nat} {G : ByteArray → ByteArray → Value} {ev : List Ev} (h : Idx w B bx bm N cnt F G ev) {b n : Nat} {z : Value} {f : ByteArray → Value} (hm : MapIs w b n z f) (s v : ByteArray) : some b ≠ (G s v).ownBlock := by
  intro e
  obtain ⟨cur, hc⟩ := own_block (h.row s v) e.symm
  obtain ⟨es, c, hm⟩ := hm.isMap
  rw [hm] at hc; cases hc
theorem Idx.boxNot {w : World} {B bx bm N cnt : Nat} {F : ByteArray → Option Nat} {G : ByteArray → ByteArray → Value} {ev : List Ev} (h : Idx w B bx bm N cnt F G ev) (s v : ByteArray) : some bx ≠ (G s v).ownBlock := by
  intro e
  obtain ⟨cur, hc⟩ := own_block (h.row s v) e.symm
  rw [h.box] at hc
  simp at hc
theorem Idx.boxMap {w : World} {B bx bm N cnt : Nat} {F : ByteArray → Option Nat} {G : ByteArray → ByteArray → Value} {ev : List Ev} (h : Idx w B bx bm N cnt F G ev) {b n : Nat} {z : Value} {f : ByteArray → Value} (hm : MapIs w b n z f) : bx ≠ b := by
  intro e
  obtain ⟨es, c, hm⟩ := hm.isMap
  rw [← e, h.box] at hm; cases hm
theorem lt_of_block {w : World} {b : Nat} {o : Obj} (h : w.heap[b]? = some o) : b < w.heap.size := (Array.getElem?_eq_some_iff.1 h).1
theorem Idx.kept {w w' : World} {B bx bm N cnt : Nat} {F : ByteArray → Option Nat} {G : ByteArray → ByteArray → Value} {ev : List Ev} (h : Idx w B bx bm N cnt F G ev) (hg : w.grownBy w' none) : Idx w' B bx bm N cnt F G ev where
  lx := h.lx
  lm := h.lm
  box := (hg.block bx (lt_of_block h.box) (by simp)).trans h.box
  out := h.out.kept hg (by simp)
  inn := fun s b hb => ⟨(h.inn s b hb).1.kept hg (by simp), (h.inn s b hb).2⟩
  inj := h.inj
  nob := h.nob
  non := h.non
  row := fun s v => (h.row s v).grown hg (fun _ _ => by simp)
  apart := h.apart
  emp := h.emp
theorem grown_below {w w' : World} (h : Below w.heap.size w w') (row : Option Nat) : w.grownBy w' row := ⟨h.os, h.tape, h.output, h.size, fun k hk _ => h.block k hk⟩
/-- A new name. -/
theorem Idx.name {w : World} {B bx bm N cnt : Nat} {F : ByteArray → Option Nat} {G : ByteArray → ByteArray → Value} {ev : List Ev} (h : Idx w B bx bm N cnt F G ev) {b : Nat} {s : ByteArray} (hs : s.size ≤ 9223372036854775807) (hn : F s = none) (hm : MapIs w b 0 (.slice none 0 0) (fun _ => .slice none 0 0))
    (hf : ∀ s, F s ≠ some b) (hbm : b ≠ bm) (hB : B ≤ b) (hN : N < 9223372036854775807) {t e : TypeId} (ht : Try.prog.underlying t = some (.map 9 e)) :
    ∃ w', (Instr.mapUpdate t (.map (some bm)) (.string s) (.map (some b))).run Try.prog w = .ok () w' ∧ Idx w' B bx bm (N + 1) cnt (fun s' => if s' = s then some b else F s') G ev ∧ w.grownBy w' (some bm) := by
  obtain ⟨w', hrun, hm', hg⟩ := h.out.put ht hN s hs (.map (some b)) (by simp)
  refine ⟨w', hrun, ?_, hg⟩
  exact {
    lx := h.lx
    lm := h.lm
    box := (hg.block bx (lt_of_block h.box) (by simp; exact h.boxMap h.out)).trans h.box
    out := by
      have e2 : (fun s' => Value.map (if s' = s then some b else F s')) = fun s' => if s' = s then .map (some b) else .map (F s') := by funext s'; by_cases e : s' = s <;> simp [e]
      rw [e2]; exact hm'
    inn := fun s' b' hb' => by
      by_cases e : s' = s
      · rw [if_pos e] at hb'
        simp only [Option.some.injEq] at hb'
        subst hb' e
        have : G s' = fun _ => .slice none 0 0 := funext (h.non s' hn)
        rw [this]
        exact ⟨(hm.kept hg (by simpa using hbm)).mono (by omega), hB⟩
      · rw [if_neg e] at hb'
        exact ⟨((h.inn s' b' hb').1.kept hg (fun e => h.nob s' (by simp at e; rw [hb', e]))).mono (by omega), (h.inn s' b' hb').2⟩
    inj := fun s1 s2 b' h1 h2 => by
      by_cases e1 : s1 = s <;> by_cases e2 : s2 = s
      · rw [e1, e2]
      · rw [if_pos e1] at h1; rw [if_neg e2] at h2
        simp only [Option.some.injEq] at h1
        subst h1
        exact absurd h2 (hf s2)
      · rw [if_neg e1] at h1; rw [if_pos e2] at h2
        simp only [Option.some.injEq] at h2
        subst h2
        exact absurd h1 (hf s1)
      · rw [if_neg e1] at h1; rw [if_neg e2] at h2
        exact h.inj s1 s2 b' h1 h2
    nob := fun s' => by
      by_cases e : s' = s
      · rw [if_pos e]; simpa using hbm
      · rw [if_neg e]; exact h.nob s'
    non := fun s' hs' => by
      by_cases e : s' = s
      · rw [if_pos e] at hs'; cases hs'
      · rw [if_neg e] at hs'; exact h.non s' hs'
    row := fun s' v => (h.row s' v).grown hg (fun k hk e => h.mapNot h.out s' v (by rw [hk, e]))
    apart := h.apart
    emp := h.emp }
/-- A number behind the others of its name and value. -/
theorem Idx.number {w w1 : World} {B bx bm N cnt : Nat} {F : ByteArray → Option Nat} {G : ByteArray → ByteArray → Value} {ev : List Ev} (h : Idx w B bx bm N cnt F G ev) {b : Nat} {s v : ByteArray} (hv : v.size ≤ 9223372036854775807) (hF : F s = some b) (hN : N < 9223372036854775807)
    (hg : w.grownBy w1 (G s v).ownBlock) {v' : Value} {x : Int} (own : OwnI w1 B v' (nums ev s v ++ [x])) (hloc : v'.ownBlock = (G s v).ownBlock ∨ ∃ g, v'.ownBlock = some g ∧ w.heap.size ≤ g) {t e : TypeId} (ht : Try.prog.underlying t = some (.map 9 e)) :
    ∃ w2, (Instr.mapUpdate t (.map (some b)) (.string v) v').run Try.prog w1 = .ok () w2 ∧ (∃ G', Idx w2 B bx bm (N + 1) cnt F G' (ev ++ [(s, v, x)])) ∧ w1.grownBy w2 (some b) := by
  obtain ⟨hm, hBb⟩ := h.inn s b hF
  have hm1 := hm.kept hg (h.mapNot hm s v)
  have hnz : v' ≠ .slice none 0 0 := by
    intro e
    subst e
    rcases own.2 with ⟨_, h0⟩ | ⟨g', cap, cur, h0, _⟩
    · simp at h0
    · cases h0
  obtain ⟨w2, hrun, hm2, hg2⟩ := hm1.put ht hN v hv v' hnz
  refine ⟨w2, hrun, ⟨fun s' v'' => if s' = s ∧ v'' = v then v' else G s' v'', ?_⟩, hg2⟩
  have hbb : bx ≠ b := h.boxMap hm
  have hne : ∀ s' v'', ¬ (s' = s ∧ v'' = v) → ∀ k, (G s' v'').ownBlock = some k → (G s v).ownBlock ≠ some k := by
    intro s' v'' hn k h1 h2
    exact hn (h.apart s' v'' s v k h1 h2)
  have hrow1 : ∀ s' v'', ¬ (s' = s ∧ v'' = v) → OwnI w1 B (G s' v'') (nums ev s' v'') := fun s' v'' hn => (h.row s' v'').grown hg (hne s' v'' hn)
  have notmap : ∀ {u : Value} {l : List Int}, OwnI w1 B u l → ∀ k, u.ownBlock = some k → some b ≠ some k := by
    intro u l hu k hk e
    obtain ⟨cur, hc⟩ := own_block hu hk
    obtain ⟨es, c, hm⟩ := hm1.isMap
    simp at e; subst e
    rw [hm] at hc; cases hc
  exact {
    lx := h.lx
    lm := h.lm
    box := (hg2.block bx (Nat.lt_of_lt_of_le (lt_of_block h.box) hg.size) (by simpa using hbb)).trans ((hg.block bx (lt_of_block h.box) (h.boxNot s v)).trans h.box)
    out := ((h.out.kept hg (h.mapNot h.out s v)).kept hg2 (by simp; exact fun e => h.nob s (by rw [hF, e]))).mono (by omega)
    inn := fun s' b' hb' => by
      refine ⟨?_, (h.inn s' b' hb').2⟩
      by_cases e : s' = s
      · subst e
        rw [hF] at hb'
        simp only [Option.some.injEq] at hb'
        subst hb'
        have e2 : (fun u => if s' = s' ∧ u = v then v' else G s' u) = fun u => if u = v then v' else G s' u := by funext u; by_cases e : u = v <;> simp [e]
        rw [e2]; exact hm2
      · have e2 : (fun v'' => if s' = s ∧ v'' = v then v' else G s' v'') = G s' := by funext u; rw [if_neg (fun hh => e hh.1)]
        rw [e2]
        have hm' := (h.inn s' b' hb').1
        exact ((hm'.kept hg (h.mapNot hm' s v)).kept hg2 (by simp; intro e3; subst e3; exact e (h.inj s' s b' hb' hF))).mono (by omega)
    inj := h.inj
    nob := h.nob
    non := fun s' hs' u => by
      have : s' ≠ s := fun e => by rw [e, hF] at hs'; cases hs'
      rw [if_neg (fun hh => this hh.1)]
      exact h.non s' hs' u
    row := fun s' u => by
      rw [nums_snoc]
      by_cases e : s' = s ∧ u = v
      · rw [if_pos e, if_pos e, e.1, e.2]
        exact own.grown hg2 (notmap own)
      · rw [if_neg e, if_neg e]
        exact (hrow1 s' u e).grown hg2 (notmap (hrow1 s' u e))
    apart := fun s1 v1 s2 v2 g h1 h2 => by
      have old_new : ∀ s' u, ¬ (s' = s ∧ u = v) → (G s' u).ownBlock = some g → v'.ownBlock = some g → False := by
        intro s' u hn a1 a2
        rcases hloc with e | ⟨g', e, hlt⟩
        · rw [e] at a2; exact hne s' u hn g a1 a2
        · rw [e] at a2; simp at a2; subst a2
          have := ((h.row s' u).lt g' a1).2
          omega
      by_cases e1 : s1 = s ∧ v1 = v <;> by_cases e2 : s2 = s ∧ v2 = v
      · exact ⟨by rw [e1.1, e2.1], by rw [e1.2, e2.2]⟩
      · rw [if_pos e1] at h1; rw [if_neg e2] at h2
        exact (old_new s2 v2 e2 h2 h1).elim
      · rw [if_neg e1] at h1; rw [if_pos e2] at h2
        exact (old_new s1 v1 e1 h1 h2).elim
      · rw [if_neg e1] at h1; rw [if_neg e2] at h2
        exact h.apart s1 v1 s2 v2 g h1 h2
    emp := fun s' u he => by
      rw [nums_snoc] at he
      by_cases e : s' = s ∧ u = v
      · rw [if_pos e] at he; simp at he
      · rw [if_neg e] at he
        rw [if_neg e]; exact h.emp s' u he }
end Go.Proofs.Ytlghnnmgbdjgoaa
