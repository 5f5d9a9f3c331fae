/- Several texts in one. -/
import Derived.Test.YtfjbdgkdkbcnhaaDoorPlainAll
import Derived.Test.YtfjbdgkdkbcnhaaDoorXpackAll
/- Plain: how bits are read as measures: turns, lists. -/
namespace Go.Proofs.YtfjbdgkdkbcnhaaDoor
open P
namespace X
namespace P
theorem ofVal_of : ∀ (Y : List Bool) (n : Nat), Y.length = n → ofVal (val Y) n = Y
  | Y, 0, h => by rw [List.length_eq_zero_iff.1 h]; rfl
  | Y, n + 1, h => by
    have hne : Y ≠ [] := by intro e; rw [e] at h; cases h
    have e := List.dropLast_concat_getLast hne
    have ih := ofVal_of Y.dropLast n (by rw [List.length_dropLast]; omega)
    generalize Y.getLast hne = b at e
    generalize Y.dropLast = Z at e ih
    subst e
    rw [ofVal_succ, val_snoc]
    have e1 : (2 * val Z + b.toNat) / 2 = val Z := by cases b <;> simp <;> omega
    have e2 : decide ((2 * val Z + b.toNat) % 2 = 1) = b := by cases b <;> simp <;> omega
    rw [e1, e2, ih]
/-- xs stands at the front of X. -/
def Fr (X xs : List Bool) : Prop := X.take xs.length = xs
theorem Fr.len {X xs : List Bool} (h : Fr X xs) : xs.length ≤ X.length := by
  have := congrArg List.length h
  rw [List.length_take] at this; omega
theorem fr_app {X xs ys : List Bool} : Fr X (xs ++ ys) ↔ Fr X xs ∧ Fr (X.drop xs.length) ys := by
  unfold Fr
  rw [List.length_append, List.take_add]
  constructor
  · intro h
    have hl := congrArg List.length h
    simp only [List.length_append, List.length_take, List.length_drop] at hl
    exact List.append_inj h (by rw [List.length_take]; omega)
  · rintro ⟨h1, h2⟩; rw [h1, h2]
/-- A number's bits stand at the front. -/
theorem fr_ofVal (X : List Bool) (v n : Nat) (hv : v < 2 ^ n) : Fr X (ofVal v n) ↔ n ≤ X.length ∧ val (X.take n) = v := by
  unfold Fr
  rw [ofVal_len]
  constructor
  · intro h
    have hl := congrArg List.length h
    rw [List.length_take, ofVal_len] at hl
    exact ⟨by omega, by rw [h, val_ofVal v n hv]⟩
  · rintro ⟨hl, rfl⟩
    exact (ofVal_of _ n (by rw [List.length_take]; omega)).symm
theorem val_two (X : List Bool) (h : 2 ≤ X.length) : val (X.take 2) = 2 * val (X.take 1) + val ((X.drop 1).take 1) := by
  match X, h with
  | x :: y :: X, _ => simp [val]
theorem val_take_len (X : List Bool) (n : Nat) : val (X.take n) < 2 ^ n := by
  have := val_take_lt X 0 n
  rwa [List.drop_zero] at this
/-- The bits of a turn at the front, in the three ways. -/
theorem fr_zero (X : List Bool) (w : Nat × Nat) : Fr X (tbits w 0) ↔ 1 ≤ X.length ∧ val (X.take 1) = 0 := by
  unfold tbits
  rw [if_pos rfl]
  exact fr_ofVal X 0 1 (by decide)
theorem fr_hold (X : List Bool) (w : Nat × Nat) (t : Nat) (h0 : t ≠ 0) (ht : t < 18446744073709551616) (h : w.1 ≤ lz t ∧ w.2 ≤ tz t) :
    Fr X (tbits w t) ↔ (2 ≤ X.length ∧ val (X.take 2) = 2) ∧ 64 - w.1 - w.2 ≤ (X.drop 2).length ∧ val ((X.drop 2).take (64 - w.1 - w.2)) = t / 2 ^ w.2 := by
  unfold tbits body
  rw [if_neg h0, if_pos h, fr_app, fr_ofVal X 2 2 (by decide), ofVal_len, fr_ofVal _ _ _ (body_lt _ _ t h0 ht h.1 h.2)]
theorem fr_new (X : List Bool) (w : Nat × Nat) (t : Nat) (h0 : t ≠ 0) (ht : t < 18446744073709551616) (h : ¬ (w.1 ≤ lz t ∧ w.2 ≤ tz t)) :
    Fr X (tbits w t) ↔ (2 ≤ X.length ∧ val (X.take 2) = 3) ∧ (6 ≤ (X.drop 2).length ∧ val ((X.drop 2).take 6) = lz t) ∧ (6 ≤ (X.drop 8).length ∧ val ((X.drop 8).take 6) = 63 - lz t - tz t) ∧
      64 - lz t - tz t ≤ (X.drop 14).length ∧ val ((X.drop 14).take (64 - lz t - tz t)) = t / 2 ^ tz t := by
  have hlt := lz_tz t h0 ht
  unfold tbits body
  rw [if_neg h0, if_neg h, fr_app, fr_ofVal X 3 2 (by decide), ofVal_len, fr_app, fr_ofVal _ _ 6 (by omega), ofVal_len, fr_app, fr_ofVal _ _ 6 (by omega), ofVal_len, fr_ofVal _ _ _ (body_lt _ _ t h0 ht (Nat.le_refl _) (Nat.le_refl _)), List.drop_drop, List.drop_drop]
/-- What every turn's bits begin with. -/
theorem fr_ways (X : List Bool) (w : Nat × Nat) (t : Nat) (ht : t < 18446744073709551616) (h : Fr X (tbits w t)) :
    (t = 0 ∧ 1 ≤ X.length ∧ val (X.take 1) = 0) ∨ (t ≠ 0 ∧ (w.1 ≤ lz t ∧ w.2 ≤ tz t) ∧ 2 ≤ X.length ∧ val (X.take 2) = 2) ∨ (t ≠ 0 ∧ ¬ (w.1 ≤ lz t ∧ w.2 ≤ tz t) ∧ 2 ≤ X.length ∧ val (X.take 2) = 3) := by
  by_cases h0 : t = 0
  · subst h0
    exact .inl ⟨rfl, (fr_zero X w).1 h⟩
  · by_cases hh : w.1 ≤ lz t ∧ w.2 ≤ tz t
    · exact .inr (.inl ⟨h0, hh, ((fr_hold X w t h0 ht hh).1 h).1⟩)
    · exact .inr (.inr ⟨h0, hh, ((fr_new X w t h0 ht hh).1 h).1⟩)
/-- Two turns whose bits stand at one front are one. -/
theorem turn_one (X : List Bool) (w : Nat × Nat) (t t' : Nat) (ht : t < 18446744073709551616) (ht' : t' < 18446744073709551616) (h : Fr X (tbits w t)) (h' : Fr X (tbits w t')) : t = t' := by
  have a := fr_ways X w t ht h
  have a' := fr_ways X w t' ht' h'
  have v2 : 2 ≤ X.length → val (X.take 2) = 2 * val (X.take 1) + val ((X.drop 1).take 1) := val_two X
  have v1 := val_take_len (X.drop 1) 1
  rcases a with ⟨rfl, a1, a2⟩ | ⟨a0, ah, a1, a2⟩ | ⟨a0, ah, a1, a2⟩ <;> rcases a' with ⟨rfl, b1, b2⟩ | ⟨b0, bh, b1, b2⟩ | ⟨b0, bh, b1, b2⟩
  · rfl
  · have := v2 b1; omega
  · have := v2 b1; omega
  · have := v2 a1; omega
  · have e := ((fr_hold X w t a0 ht ah).1 h).2.2
    have e' := ((fr_hold X w t' b0 ht' bh).1 h').2.2
    rw [← body_back w.2 t a0 ht ah.2, ← body_back w.2 t' b0 ht' bh.2, ← e, ← e']
  · omega
  · have := v2 a1; omega
  · omega
  · obtain ⟨_, ⟨_, l1⟩, ⟨_, l2⟩, _, l3⟩ := (fr_new X w t a0 ht ah).1 h
    obtain ⟨_, ⟨_, k1⟩, ⟨_, k2⟩, _, k3⟩ := (fr_new X w t' b0 ht' bh).1 h'
    have q := lz_tz t a0 ht
    have q' := lz_tz t' b0 ht'
    have e1 : lz t = lz t' := by omega
    have e2 : tz t = tz t' := by omega
    rw [← body_back (tz t) t a0 ht (Nat.le_refl _), ← body_back (tz t') t' b0 ht' (Nat.le_refl _), ← l3, ← k3, e1, e2]
/-- Within the window: what is read is a turn just where it can be. -/
theorem hold_sound (X : List Bool) (w : Nat × Nat) (h2 : 2 ≤ X.length) (hv : val (X.take 2) = 2) (hw : w.1 + w.2 ≤ 63) (hl : 64 - w.1 - w.2 ≤ (X.drop 2).length) (hx : val ((X.drop 2).take (64 - w.1 - w.2)) ≠ 0) :
    Fr X (tbits w (val ((X.drop 2).take (64 - w.1 - w.2)) * 2 ^ w.2)) ∧ nw w (val ((X.drop 2).take (64 - w.1 - w.2)) * 2 ^ w.2) = w ∧ (tbits w (val ((X.drop 2).take (64 - w.1 - w.2)) * 2 ^ w.2)).length = 2 + (64 - w.1 - w.2) ∧ val ((X.drop 2).take (64 - w.1 - w.2)) * 2 ^ w.2 < 18446744073709551616 := by
  have hlt := val_take_len (X.drop 2) (64 - w.1 - w.2)
  obtain ⟨t0, t1, t2, t3, t4⟩ := turn_of w.1 w.2 _ hw hlt hx
  refine ⟨(fr_hold X w _ t0 t1 ⟨t2, t3⟩).2 ⟨⟨h2, hv⟩, hl, by rw [t4]⟩, ?_, ?_, t1⟩
  · unfold nw; rw [if_neg t0, if_pos ⟨t2, t3⟩]
  · unfold tbits; rw [if_neg t0, if_pos ⟨t2, t3⟩, List.length_append, ofVal_len, body_len]
theorem hold_full (X : List Bool) (w : Nat × Nat) (hw : Win w) (hv : val (X.take 2) = 2) (t : Nat) (ht : t < 18446744073709551616) (h : Fr X (tbits w t)) :
    w.1 + w.2 ≤ 63 ∧ 64 - w.1 - w.2 ≤ (X.drop 2).length ∧ val ((X.drop 2).take (64 - w.1 - w.2)) ≠ 0 := by
  have v2 : 2 ≤ X.length → val (X.take 2) = 2 * val (X.take 1) + val ((X.drop 1).take 1) := val_two X
  have v1 := val_take_len (X.drop 1) 1
  rcases fr_ways X w t ht h with ⟨rfl, a1, a2⟩ | ⟨a0, ah, a1, a2⟩ | ⟨a0, ah, a1, a2⟩
  · exfalso
    match X, a1 with
    | [x], _ => have e : val (List.take 2 [x]) = val (List.take 1 [x]) := rfl; omega
    | x :: y :: X, _ => have := v2 (by simp); omega
  · have e := (fr_hold X w t a0 ht ah).1 h
    refine ⟨win_holds hw t a0 ht ah.1, e.2.1, ?_⟩
    rw [e.2.2]
    intro hz
    have := body_back w.2 t a0 ht ah.2
    rw [hz] at this
    omega
  · omega
/-- With a new window: what is read is a turn just where it can be. -/
theorem new_sound (X : List Bool) (w : Nat × Nat) (c d t : Nat) (h2 : 2 ≤ X.length) (hv : val (X.take 2) = 3) (h14 : 14 ≤ X.length) (hc : val ((X.drop 2).take 6) = c) (hcd : val ((X.drop 8).take 6) = 63 - c - d) (hs : c + d ≤ 63) (hl : 64 - c - d ≤ (X.drop 14).length) (hx : val ((X.drop 14).take (64 - c - d)) ≠ 0)
    (ht : t = val ((X.drop 14).take (64 - c - d)) * 2 ^ d) (h1 : lz t = c) (hz : tz t = d) (hn : ¬ (w.1 ≤ c ∧ w.2 ≤ d)) :
    Fr X (tbits w t) ∧ nw w t = (c, d) ∧ (tbits w t).length = 14 + (64 - c - d) ∧ t < 18446744073709551616 := by
  have hlt := val_take_len (X.drop 14) (64 - c - d)
  obtain ⟨t0, t1, t2, t3, t4⟩ := turn_of c d _ hs hlt hx
  rw [← ht] at t0 t1 t2 t3 t4
  have hn' : ¬ (w.1 ≤ lz t ∧ w.2 ≤ tz t) := by rw [h1, hz]; exact hn
  refine ⟨(fr_new X w t t0 t1 hn').2 ⟨⟨h2, hv⟩, ⟨by rw [List.length_drop]; omega, by rw [hc, h1]⟩, ⟨by rw [List.length_drop]; omega, by rw [hcd, h1, hz]⟩, by rw [h1, hz]; exact hl, by rw [h1, hz, t4]⟩, ?_, ?_, t1⟩
  · unfold nw; rw [if_neg t0, if_neg hn', h1, hz]
  · unfold tbits
    rw [if_neg t0, if_neg hn', h1, hz]
    simp only [List.length_append, ofVal_len, body_len]
    omega
theorem new_full (X : List Bool) (w : Nat × Nat) (hv : val (X.take 2) = 3) (t : Nat) (ht : t < 18446744073709551616) (h : Fr X (tbits w t)) :
    14 ≤ X.length ∧ val ((X.drop 2).take 6) = lz t ∧ val ((X.drop 8).take 6) = 63 - lz t - tz t ∧ lz t + tz t ≤ 63 ∧ 64 - lz t - tz t ≤ (X.drop 14).length ∧ val ((X.drop 14).take (64 - lz t - tz t)) ≠ 0 ∧
      t = val ((X.drop 14).take (64 - lz t - tz t)) * 2 ^ tz t ∧ ¬ (w.1 ≤ lz t ∧ w.2 ≤ tz t) := by
  have v2 : 2 ≤ X.length → val (X.take 2) = 2 * val (X.take 1) + val ((X.drop 1).take 1) := val_two X
  have v1 := val_take_len (X.drop 1) 1
  rcases fr_ways X w t ht h with ⟨rfl, a1, a2⟩ | ⟨a0, ah, a1, a2⟩ | ⟨a0, ah, a1, a2⟩
  · exfalso
    match X, a1 with
    | [x], _ => have e : val (List.take 2 [x]) = val (List.take 1 [x]) := rfl; omega
    | x :: y :: X, _ => have := v2 (by simp); omega
  · omega
  · obtain ⟨_, ⟨l0, l1⟩, ⟨l2, l3⟩, l4, l5⟩ := (fr_new X w t a0 ht ah).1 h
    rw [List.length_drop] at l2
    have hb := body_back (tz t) t a0 ht (Nat.le_refl _)
    refine ⟨by omega, l1, l3, lz_tz t a0 ht, l4, ?_, by rw [l5, hb], ah⟩
    rw [l5]
    intro hz
    rw [hz] at hb
    omega
end P
end X
end Go.Proofs.YtfjbdgkdkbcnhaaDoor
/- What xor.reader's pull and window answer. -/
namespace Go.Proofs.YtfjbdgkdkbcnhaaDoor
open P
namespace X
open Go.RowKit
set_option linter.unusedVariables false
set_option linter.unusedSimpArgs false

/-- Of old memory nothing but block g may have turned. -/
structure But (g : Nat) (w w' : World) : Prop where
  os : w'.os = w.os
  tape : w'.tape = w.tape
  output : w'.output = w.output
  size : w.heap.size ≤ w'.heap.size
  block : ∀ k, k < w.heap.size → k ≠ g → w'.heap[k]? = w.heap[k]?
theorem But.refl (g : Nat) (w : World) : But g w w := ⟨rfl, rfl, rfl, Nat.le_refl _, fun _ _ _ => rfl⟩
theorem But.of {g : Nat} {w w' : World} (h : Below w.heap.size w w') : But g w w' := ⟨h.os, h.tape, h.output, h.size, fun k hk _ => h.block k hk⟩
theorem But.trans {g : Nat} {w w1 w2 : World} (h1 : But g w w1) (h2 : But g w1 w2) : But g w w2 :=
  ⟨h2.os.trans h1.os, h2.tape.trans h1.tape, h2.output.trans h1.output, Nat.le_trans h1.size h2.size, fun k hk hg => (h2.block k (Nat.lt_of_lt_of_le hk h1.size) hg).trans (h1.block k hk hg)⟩
theorem But.setCell {g : Nat} {w w' : World} (h : But g w w') (j : Nat) (u : Value) : But g w (w'.setCell ⟨g, j, none⟩ u) :=
  ⟨h.os, h.tape, h.output, by simpa using h.size, fun k hk hg => (heap_setCell_other w' ⟨g, j, none⟩ k u hg).trans (h.block k hk hg)⟩
theorem But.drew {g : Nat} {w w' : World} (h : But g w w') : But g w w'.drew := ⟨h.os, h.tape, h.output, h.size, h.block⟩
theorem But.cell {g : Nat} {w w' : World} (h : But g w w') {p : Addr} (hp : p.block < w.heap.size) (hg : p.block ≠ g) : w'.cell? p = w.cell? p := World.cell?_of_block (h.block p.block hp hg)
theorem But.frozen {g : Nat} {w w' : World} (h : But g w w') {p : Addr} (hp : p.block < w.heap.size) (hg : p.block ≠ g) : w'.frozen? p = w.frozen? p := World.frozen?_of_block (h.block p.block hp hg)
theorem But.below {g B : Nat} {w0 w w' : World} (h : But g w w') (h0 : Below B w0 w) (hB : B ≤ g) (hw : B ≤ w.heap.size) : Below B w0 w' :=
  ⟨h.os.trans h0.os, h.tape.trans h0.tape, h.output.trans h0.output, Nat.le_trans h0.size h.size, fun k hk => (h.block k (by omega) (by omega)).trans (h0.block k hk)⟩
theorem B2.but {w w' : World} {g b : Nat} {c0 c1 : Value} (h : B2 w b c0 c1) (hb : But g w w') (hg : b ≠ g) : B2 w' b c0 c1 :=
  ⟨(hb.cell (p := ⟨b, 0, none⟩) h.lt hg).trans h.x0, (hb.cell (p := ⟨b, 1, none⟩) h.lt hg).trans h.x1, (hb.frozen (p := ⟨b, 0, none⟩) h.lt hg).trans h.f0, (hb.frozen (p := ⟨b, 1, none⟩) h.lt hg).trans h.f1⟩
theorem _root_.Go.Proofs.YtfjbdgkdkbcnhaaDoor.OwnK.but {t : TypeId} {k : IntKind} {w w' : World} {base g : Nat} {v : Value} {l : List Int} (h : OwnK t k w base v l) (hb : But g w w') (hg : g < base) : OwnK t k w' base v l := by
  obtain ⟨h1, h2⟩ := h
  refine ⟨h1, ?_⟩
  rcases h2 with h2 | ⟨b, cap, cur, rfl, hbb, hh, r⟩
  · exact .inl h2
  · exact .inr ⟨b, cap, cur, rfl, hbb, by rw [hb.block b (Array.getElem?_eq_some_iff.1 hh).1 (by omega)]; exact hh, r⟩

/-- The reader in block g: bits that lie in old memory, where it stands, whether it is broken. -/
structure Rd (w0 w : World) (g : Nat) (v : Value) (bs : List Bool) (q : Nat) (br : Bool) : Prop where
  old : Below w0.heap.size w0 w
  hg : w0.heap.size ≤ g
  x0 : w.cell? ⟨g, 0, none⟩ = some v
  x1 : w.cell? ⟨g, 1, none⟩ = some (.int .i64 bs.length)
  x2 : w.cell? ⟨g, 2, none⟩ = some (.int .i64 q)
  x3 : w.cell? ⟨g, 3, none⟩ = some (.bool br)
  f2 : w.frozen? ⟨g, 2, none⟩ = false
  f3 : w.frozen? ⟨g, 3, none⟩ = false
theorem Rd.lt {w0 w : World} {g : Nat} {v : Value} {bs : List Bool} {q : Nat} {br : Bool} (h : Rd w0 w g v bs q br) : g < w.heap.size := World.block_lt_of_cell? _ _ h.x0
theorem Rd.next {w0 w w' : World} {g : Nat} {v : Value} {bs : List Bool} {q : Nat} {br : Bool} (h : Rd w0 w g v bs q br) (hb : Below w.heap.size w w') : Rd w0 w' g v bs q br :=
  ⟨Below.next h.old hb, h.hg, keep_cell h.x0 hb, keep_cell h.x1 hb, keep_cell h.x2 hb, keep_cell h.x3 hb, (hb.frozen (p := ⟨g, 2, none⟩) h.lt).trans h.f2, (hb.frozen (p := ⟨g, 3, none⟩) h.lt).trans h.f3⟩
theorem Rd.drew {w0 w : World} {g : Nat} {v : Value} {bs : List Bool} {q : Nat} {br : Bool} (h : Rd w0 w g v bs q br) : Rd w0 w.drew g v bs q br := ⟨h.old.drew, h.hg, h.x0, h.x1, h.x2, h.x3, h.f2, h.f3⟩
theorem Rd.setAt {w0 w : World} {g : Nat} {v : Value} {bs : List Bool} {q : Nat} {br : Bool} (h : Rd w0 w g v bs q br) (q' : Nat) : Rd w0 (w.setCell ⟨g, 2, none⟩ (.int .i64 q')) g v bs q' br :=
  ⟨h.old.setCell h.hg _, h.hg, (World.cell?_setCell_other _ _ _ _ (by simp)).trans h.x0, (World.cell?_setCell_other _ _ _ _ (by simp)).trans h.x1, World.cell?_setCell_same _ _ _ h.x2, (World.cell?_setCell_other _ _ _ _ (by simp)).trans h.x3,
   (World.frozen?_setCell _ _ _ _).trans h.f2, (World.frozen?_setCell _ _ _ _).trans h.f3⟩
theorem Rd.setBr {w0 w : World} {g : Nat} {v : Value} {bs : List Bool} {q : Nat} {br : Bool} (h : Rd w0 w g v bs q br) : Rd w0 (w.setCell ⟨g, 3, none⟩ (.bool true)) g v bs q true :=
  ⟨h.old.setCell h.hg _, h.hg, (World.cell?_setCell_other _ _ _ _ (by simp)).trans h.x0, (World.cell?_setCell_other _ _ _ _ (by simp)).trans h.x1, (World.cell?_setCell_other _ _ _ _ (by simp)).trans h.x2, World.cell?_setCell_same _ _ _ h.x3,
   (World.frozen?_setCell _ _ _ _).trans h.f2, (World.frozen?_setCell _ _ _ _).trans h.f3⟩
theorem Rd.other {w0 w : World} {g b j : Nat} {v : Value} {bs : List Bool} {q : Nat} {br : Bool} (h : Rd w0 w g v bs q br) (hb : b ≠ g) (hw : w0.heap.size ≤ b) (u : Value) : Rd w0 (w.setCell ⟨b, j, none⟩ u) g v bs q br :=
  ⟨h.old.setCell hw _, h.hg, (World.cell?_setCell_other _ _ _ _ (by simp [hb, hb.symm])).trans h.x0, (World.cell?_setCell_other _ _ _ _ (by simp [hb, hb.symm])).trans h.x1, (World.cell?_setCell_other _ _ _ _ (by simp [hb, hb.symm])).trans h.x2, (World.cell?_setCell_other _ _ _ _ (by simp [hb, hb.symm])).trans h.x3,
   (World.frozen?_setCell _ _ _ _).trans h.f2, (World.frozen?_setCell _ _ _ _).trans h.f3⟩
abbrev ptr (g : Nat) : Value := .pointer (some ⟨g, 0, none⟩)

set_option maxHeartbeats 1000000 in
theorem rpull_ok (v : Value) (bs : List Bool) (q n g : Nat) (br : Bool) (w0 w : World) (hr : RowB w0 v (P.pack bs)) (n1 : (bs.length : Int) ≤ 9223372036854775000) (h : Rd w0 w g v bs q br) (hn : n ≤ 64) (hl : q + n ≤ bs.length) :
    Calls Tryd.prog 63 #[ptr g, .int .i64 n] w fun e w' => e = .returned (.int .u64 (P.val ((bs.drop q).take n) : Nat)) ∧ Rd w0 w' g v bs (q + n) br ∧ But g w w' := by
  have HC := hide (fun (w : World) (hr : RowB w v (P.pack bs)) => pull_ok v bs q n w hr (by omega) hn hl)
  have hwr : IntKind.i64.wrap ((q : Int) + (n : Int)) = ((q + n : Nat) : Int) := by rw [IntKind.wrap_i64]; omega
  have h1 := h.drew
  have hr1 := hr.below h1.old (Nat.le_refl _)
  generalize P.val ((bs.drop q).take n) = x at HC ⊢
  obtain ⟨ho, hg, x0, x1, x2, x3, f2, f3⟩ := id h
  go_enter Tryd.func63, Tryd.ntmps63
  go_wp2_with fail
  go_region_held3 (fun wx => wx.cell? ⟨g, 0, none⟩ = some v ∧ wx.cell? ⟨g, 1, none⟩ = some (.int .i64 bs.length) ∧ wx.cell? ⟨g, 2, none⟩ = some (.int .i64 q)) (first | (refine ⟨?_, ?_, ?_⟩ <;> with_reducible assumption) | go_keep) (first
    | (go_at_call 61; refine (HC.out _ hr1).mono ?_; rintro e w5 ⟨rfl, hb5⟩; have h5 := h1.next hb5; have b5 : But g w w5 := (But.refl g w).drew.trans (But.of hb5); obtain ⟨ho5, _, y0, y1, y2, y3, g2, g3⟩ := id h5))
  go_wp2
  go_ret
  have h6 := h5.setAt (q + n)
  rw [Int.natCast_add] at h6
  exact ⟨rfl, h6, b5.setCell 2 _⟩
set_option maxHeartbeats 1000000 in
theorem rpull_bad (v : Value) (bs : List Bool) (q n g : Nat) (br : Bool) (w0 w : World) (hr : RowB w0 v (P.pack bs)) (n1 : (bs.length : Int) ≤ 9223372036854775000) (h : Rd w0 w g v bs q br) (hn : n ≤ 64) (hq : q ≤ bs.length) (hl : bs.length < q + n) :
    Calls Tryd.prog 63 #[ptr g, .int .i64 n] w fun e w' => e = .returned (.int .u64 0) ∧ Rd w0 w' g v bs q true ∧ But g w w' := by
  have HC := hide (fun (w : World) (hr : RowB w v (P.pack bs)) => pull_short v _ (bs.length : Int) q n w hr (P.pack_byt _ bs) (by omega) (P.pack_ok bs) (by omega) (by omega) (by omega) (by omega) (by omega))
  have h1 := h.drew
  have hr1 := hr.below h1.old (Nat.le_refl _)
  obtain ⟨ho, hg, x0, x1, x2, x3, f2, f3⟩ := id h
  go_enter Tryd.func63, Tryd.ntmps63
  go_wp2_with fail
  go_region_held3 (fun wx => wx.cell? ⟨g, 0, none⟩ = some v ∧ wx.cell? ⟨g, 1, none⟩ = some (.int .i64 bs.length) ∧ wx.cell? ⟨g, 2, none⟩ = some (.int .i64 q)) (first | (refine ⟨?_, ?_, ?_⟩ <;> with_reducible assumption) | go_keep) (first
    | (go_at_call 61; refine (HC.out _ hr1).mono ?_; rintro e w5 ⟨rfl, hb5⟩; have h5 := h1.next hb5; have b5 : But g w w5 := (But.refl g w).drew.trans (But.of hb5); obtain ⟨ho5, _, y0, y1, y2, y3, g2, g3⟩ := id h5))
  go_wp2
  go_ret
  exact ⟨rfl, h5.setBr, b5.setCell 3 _⟩
/-- Pull, whatever is there. -/
theorem rpull_any (v : Value) (bs : List Bool) (q n g : Nat) (br : Bool) (w0 w : World) (hr : RowB w0 v (P.pack bs)) (n1 : (bs.length : Int) ≤ 9223372036854775000) (h : Rd w0 w g v bs q br) (hn : n ≤ 64) (hq : q ≤ bs.length) :
    Calls Tryd.prog 63 #[ptr g, .int .i64 n] w fun e w' => ∃ (x q' : Nat) (br' : Bool), e = .returned (.int .u64 x) ∧ x < 2 ^ n ∧ Rd w0 w' g v bs q' br' ∧ But g w w' ∧ q' ≤ bs.length ∧ (br = true → br' = true) := by
  by_cases hl : q + n ≤ bs.length
  · refine (rpull_ok v bs q n g br w0 w hr n1 h hn hl).mono ?_
    rintro e w' ⟨rfl, h1, h2⟩
    exact ⟨_, q + n, br, rfl, P.val_take_len _ _, h1, h2, hl, id⟩
  · refine (rpull_bad v bs q n g br w0 w hr n1 h hn hq (by omega)).mono ?_
    rintro e w' ⟨rfl, h1, h2⟩
    exact ⟨0, q, true, rfl, Nat.pow_pos (by decide), h1, h2, hq, fun _ => rfl⟩

theorem But.setNew {g b : Nat} {w w' : World} (h : But g w w') (hb : w.heap.size ≤ b) (j : Nat) (u : Value) : But g w (w'.setCell ⟨b, j, none⟩ u) :=
  ⟨h.os, h.tape, h.output, by simpa using h.size, fun k hk hg => (heap_setCell_other w' ⟨b, j, none⟩ k u (by simp; omega)).trans (h.block k hk hg)⟩
/-- The window that is told, whatever the two pulls answer. -/
theorem window_gen (v : Value) (bs : List Bool) (q g : Nat) (br : Bool) (w0 w : World) (PA : Nat → Nat → Bool → Prop) (PB : Nat → Nat → Nat → Bool → Prop) (h : Rd w0 w g v bs q br)
    (HA : ∀ w : World, Rd w0 w g v bs q br → Calls Tryd.prog 63 #[ptr g, .int .i64 6] w fun e w' => ∃ (x q' : Nat) (br' : Bool), e = .returned (.int .u64 x) ∧ x < 64 ∧ Rd w0 w' g v bs q' br' ∧ But g w w' ∧ PA x q' br')
    (HB : ∀ (x q1 : Nat) (br1 : Bool), PA x q1 br1 → ∀ w : World, Rd w0 w g v bs q1 br1 → Calls Tryd.prog 63 #[ptr g, .int .i64 6] w fun e w' => ∃ (y q' : Nat) (br' : Bool), e = .returned (.int .u64 y) ∧ y < 64 ∧ Rd w0 w' g v bs q' br' ∧ But g w w' ∧ PB x y q' br') :
    Calls Tryd.prog 74 #[ptr g] w fun e w' => ∃ (x y q' : Nat) (br' : Bool), e = .returned (winV x (64 - (x : Int) - ((y : Int) + 1))) ∧ x < 64 ∧ y < 64 ∧ Rd w0 w' g v bs q' br' ∧ But g w w' ∧ PB x y q' br' := by
  replace HA := hide HA
  replace HB := hide HB
  have hR := B2.new w (.int .i64 0) (.int .i64 0) 76
  have h1 := h.next ((Below.refl _ _).alloc (Nat.le_refl _) (.cells #[.int .i64 0, .int .i64 0] 76))
  have b1 : But g w _ := But.of ((Below.refl _ _).alloc (Nat.le_refl _) (.cells #[.int .i64 0, .int .i64 0] 76))
  have hne : w.heap.size ≠ g := by have := h.lt; omega
  have hw0 : w0.heap.size ≤ w.heap.size := h.old.size
  clear h
  go_enter Tryd.func74, Tryd.ntmps74
  go_wp2_with fail
  refine (HA.out _ h1).mono ?_
  rintro e w3 ⟨x, q1, br1, rfl, hx, h3, b3, pa⟩
  have hR3 := hR.but b3 hne
  have b4 := b1.trans b3
  replace HB := hide (HB.out x q1 br1 pa)
  clear hR h1 b1 b3 HA
  go_wp2_with fail
  refine (HB.out _ h3).mono ?_
  rintro e w5 ⟨y, q2, br2, rfl, hy, h5, b5, pb⟩
  have hR5 := hR3.but b5 hne
  have b6 := b4.trans b5
  clear hR3 h3 b4 b5 HB
  have Hpb := hide pb
  clear pa pb
  obtain ⟨r0, r1, rf0, rf1⟩ := id hR5
  go_wp2
  have q1 := hR5.set (.int .i64 x) (.int .i64 (64 - (x : Int) - ((y : Int) + 1)))
  exact bodyPost_ret (v := winV x (64 - (x : Int) - ((y : Int) + 1))) (by simp [results, Tryd.results74, go_sem, q1.x0, q1.x1]) rfl ⟨x, y, q2, br2, rfl, hx, hy, (h5.other hne hw0 _).other hne hw0 _, (b6.setNew (Nat.le_refl _) 0 _).setNew (Nat.le_refl _) 1 _, Hpb.out⟩

/-- A window that is none. -/
theorem tw_no (v : Value) (bs : List Bool) (q g a : Nat) (b : Int) (br : Bool) (w0 w : World) (h : Rd w0 w g v bs q br) (ha : a ≤ 64) (hb0 : -64 ≤ b) (hb1 : b ≤ 64) (hno : 63 < (a : Int) + b ∨ b < 0) :
    Calls Tryd.prog 73 #[ptr g, winV a b] w fun e w' => e = .returned (.int .u64 0) ∧ Rd w0 w' g v bs q true ∧ But g w w' := by
  have HWd : Hid (∀ w : World, Calls Tryd.prog 59 #[winV a b] w fun e w' => e = .returned (.int .i64 (64 - (a : Int) - b)) ∧ Below w.heap.size w w') := fun w => width_any _ _ w (by omega) (by omega) (by omega) (by omega)
  have hR := B2.new w (.int .i64 a) (.int .i64 b) 76
  have h1 := h.next ((Below.refl _ _).alloc (Nat.le_refl _) (.cells #[.int .i64 a, .int .i64 b] 76))
  have b1 : But g w _ := But.of ((Below.refl _ _).alloc (Nat.le_refl _) (.cells #[.int .i64 a, .int .i64 b] 76))
  have hs1 := below_alloc (Below.refl w.heap.size w) (.cells #[.int .i64 a, .int .i64 b] 76)
  clear h
  by_cases hw : 64 - (a : Int) - b < 1
  · have hd : decide (64 - (a : Int) - b < 1) = true := by simp; omega
    clear hno hw
    go_enter Tryd.func73, Tryd.ntmps73
    go_wp2_with (go_at_call 59; go_must (refine (HWd.out _).mono ?_); rintro e w3 ⟨rfl, hb3⟩; have h3 := h1.next hb3; have b3 := b1.trans (But.of (g := g) hb3); have hR3 := hR.next hb3; obtain ⟨r0, r1, rf0, rf1⟩ := id hR3; obtain ⟨ho, hg, x0, x1, x2, x3, f2, f3⟩ := id h3)
    go_ret
    exact ⟨rfl, h3.setBr, b3.setCell 3 _⟩
  · have hd : decide (64 - (a : Int) - b < 1) = false := by simp; omega
    have hd2 : decide (b < 0) = true := by simp; omega
    clear hno hw
    go_enter Tryd.func73, Tryd.ntmps73
    go_wp2_with (go_at_call 59; go_must (refine (HWd.out _).mono ?_); rintro e w3 ⟨rfl, hb3⟩; have h3 := h1.next hb3; have b3 := b1.trans (But.of (g := g) hb3); have hR3 := hR.next hb3; obtain ⟨r0, r1, rf0, rf1⟩ := id hR3; obtain ⟨ho, hg, x0, x1, x2, x3, f2, f3⟩ := id h3)
    go_ret
    exact ⟨rfl, h3.setBr, b3.setCell 3 _⟩
set_option maxHeartbeats 1000000 in
/-- A window that is one, whatever the pull answers. -/
theorem tw_gen (v : Value) (bs : List Bool) (q g a b : Nat) (br : Bool) (w0 w : World) (PA : Nat → Nat → Bool → Prop) (h : Rd w0 w g v bs q br) (hab : a + b ≤ 63)
    (HA : ∀ w : World, Rd w0 w g v bs q br → Calls Tryd.prog 63 #[ptr g, .int .i64 (64 - (a : Int) - (b : Int))] w fun e w' => ∃ (x q' : Nat) (br' : Bool), e = .returned (.int .u64 x) ∧ x < 2 ^ (64 - a - b) ∧ Rd w0 w' g v bs q' br' ∧ But g w w' ∧ PA x q' br') :
    Calls Tryd.prog 73 #[ptr g, winV a b] w fun e w' => ∃ (x q' : Nat) (br' : Bool), e = .returned (.int .u64 (x * 2 ^ b : Nat)) ∧ x * 2 ^ b < 18446744073709551616 ∧ Rd w0 w' g v bs q' (br' || decide (x = 0)) ∧ But g w w' ∧ PA x q' br' := by
  replace HA := hide HA
  have HWd : Hid (∀ w : World, Calls Tryd.prog 59 #[winV a b] w fun e w' => e = .returned (.int .i64 (64 - (a : Int) - (b : Int))) ∧ Below w.heap.size w w') := fun w => width_any _ _ w (by omega) (by omega) (by omega) (by omega)
  have hR := B2.new w (.int .i64 a) (.int .i64 b) 76
  have h1 := h.next ((Below.refl _ _).alloc (Nat.le_refl _) (.cells #[.int .i64 a, .int .i64 b] 76))
  have b1 : But g w _ := But.of ((Below.refl _ _).alloc (Nat.le_refl _) (.cells #[.int .i64 a, .int .i64 b] 76))
  have hne : w.heap.size ≠ g := by have := h.lt; omega
  clear h
  have hd : decide (64 - (a : Int) - (b : Int) < 1) = false := by simp; omega
  have hd2 : decide ((b : Int) < 0) = false := by simp
  go_enter Tryd.func73, Tryd.ntmps73
  go_wp2_with (go_at_call 59; go_must (refine (HWd.out _).mono ?_); rintro e w3 ⟨rfl, hb3⟩; have h3 := h1.next hb3; have b3 := b1.trans (But.of (g := g) hb3); have hR3 := hR.next hb3; obtain ⟨r0, r1, rf0, rf1⟩ := id hR3)
  clear h1 b1 hb3 hR
  have h4 := h3.drew
  have hR4 := hR3.drew
  have b4 := b3.drew
  obtain ⟨s0, s1, _, _⟩ := id hR4
  go_region_held3 (fun wx => wx.cell? ⟨w.heap.size, 0, none⟩ = some (.int .i64 a) ∧ wx.cell? ⟨w.heap.size, 1, none⟩ = some (.int .i64 b)) (refine ⟨?_, ?_⟩ <;> with_reducible assumption) (first
    | (go_at_call 59; refine (HWd.out _).mono ?_; rintro e w5 ⟨rfl, hb5⟩; have h5 := h4.next hb5; have b5 := b4.trans (But.of (g := g) hb5); have hR5 := hR4.next hb5; obtain ⟨t0, t1, tf0, tf1⟩ := id hR5)
    | (go_at_call 63; refine (HA.out _ h5).mono ?_; rintro e w7 ⟨x, q7, br7, rfl, hx, h7, b7, pa⟩; have b8 := b5.trans b7; have hR7 := hR5.but b7 hne; obtain ⟨u0, u1, uf0, uf1⟩ := id hR7))
  have hlt : x * 2 ^ b < 18446744073709551616 := by
    have hp : 0 < 2 ^ b := Nat.pow_pos (by decide)
    have e : (2 : Nat) ^ (64 - a - b) * 2 ^ b = 2 ^ (64 - a) := by rw [← Nat.pow_add]; congr 1; omega
    have h1 : x * 2 ^ b < 2 ^ (64 - a) := by rw [← e]; exact Nat.mul_lt_mul_of_pos_right hx hp
    have h2 : (2 : Nat) ^ (64 - a) ≤ 2 ^ 64 := Nat.pow_le_pow_right (by decide) (by omega)
    omega
  have hwx : IntKind.u64.wrap ((x : Int) * 2 ^ b) = ((x * 2 ^ b : Nat) : Int) := by
    have e : ((x : Int) * 2 ^ b) = ((x * 2 ^ b : Nat) : Int) := by simp
    rw [e, IntKind.wrap_u64]; omega
  have hz : x = 0 ↔ x * 2 ^ b = 0 := by
    have hp : 0 < 2 ^ b := Nat.pow_pos (by decide)
    constructor
    · rintro rfl; simp
    · intro h; rcases Nat.mul_eq_zero.1 h with h | h <;> omega
  obtain ⟨y, hy⟩ : ∃ y, y = x * 2 ^ b := ⟨_, rfl⟩
  rw [← hy] at hwx hz hlt
  have HY := hide hy
  have Hpa := hide pa
  clear hy pa hx hd hd2 HWd HA
  obtain ⟨ho, hg, x0, x1, x2, x3, f2, f3⟩ := id h7
  by_cases hx0 : y = 0
  · have hd : ((y : Int) == 0) = true := by simp; exact hx0
    have HX : Hid (decide (x = 0) = true) := by show _ = _; simp; exact hz.2 hx0
    clear hx0 hz
    go_wp2
    go_ret
    refine ⟨x, q7, br7, ret_int (hwx.trans (by rw [HY.out])), by rw [← HY.out]; exact hlt, ?_, b8.setCell 3 _, Hpa.out⟩
    rw [HX.out, Bool.or_true]
    exact h7.setBr
  · have hd : ((y : Int) == 0) = false := by simp; exact hx0
    have HX : Hid (decide (x = 0) = false) := by show _ = _; simp; exact fun h => hx0 (hz.1 h)
    clear hx0 hz
    go_wp2
    go_ret
    refine ⟨x, q7, br7, ret_int (hwx.trans (by rw [HY.out])), by rw [← HY.out]; exact hlt, ?_, b8, Hpa.out⟩
    rw [HX.out, Bool.or_false]
    exact h7
end X
end Go.Proofs.YtfjbdgkdkbcnhaaDoor
/- What xor.reader's turn answers. -/
namespace Go.Proofs.YtfjbdgkdkbcnhaaDoor
open P
namespace X
open Go.RowKit
set_option linter.unusedVariables false
set_option linter.unusedSimpArgs false

/-- The two boxes of turn, made. -/
theorem two_boxes (w : World) (a b : Value) : B2 ((w.alloc (.cells #[a, b] 76)).alloc (.cells #[.int .i64 0, .int .i64 0] 76)) w.heap.size a b ∧
    B2 ((w.alloc (.cells #[a, b] 76)).alloc (.cells #[.int .i64 0, .int .i64 0] 76)) (w.heap.size + 1) (.int .i64 0) (.int .i64 0) := by
  refine ⟨(B2.new w a b _).alloc _, ?_⟩
  have h := B2.new (w.alloc (.cells #[a, b] 76)) (.int .i64 0) (.int .i64 0) 76
  simpa using h
theorem below_two (w : World) (o1 o2 : Obj) : Below w.heap.size w ((w.alloc o1).alloc o2) := ((Below.refl _ _).alloc (Nat.le_refl _) _).alloc (by simp) _

set_option maxHeartbeats 1000000 in
/-- The first bit is 0, or there is none. -/
theorem turn_zero (v : Value) (bs : List Bool) (q q1 g : Nat) (a b : Int) (br br1 : Bool) (w0 w : World) (h : Rd w0 w g v bs q br)
    (H1 : ∀ w : World, Rd w0 w g v bs q br → Calls Tryd.prog 63 #[ptr g, .int .i64 1] w fun e w' => e = .returned (.int .u64 0) ∧ Rd w0 w' g v bs q1 br1 ∧ But g w w') :
    Calls Tryd.prog 64 #[ptr g, winV a b] w fun e w' => e = .returned (.tuple #[.int .u64 0, winV a b]) ∧ Rd w0 w' g v bs q1 br1 ∧ But g w w' := by
  replace H1 := hide H1
  obtain ⟨hP, hR⟩ := two_boxes w (.int .i64 a) (.int .i64 b)
  have hb0 := below_two w (.cells #[.int .i64 a, .int .i64 b] 76) (.cells #[.int .i64 0, .int .i64 0] 76)
  have h1 := h.next hb0
  have b1 : But g w _ := But.of hb0
  have hlt := h.lt
  have hne : w.heap.size ≠ g := by omega
  have hne1 : w.heap.size + 1 ≠ g := by omega
  have hw0 : w0.heap.size ≤ w.heap.size := h.old.size
  clear h hb0
  go_enter Tryd.func64, Tryd.ntmps64
  go_wp2_with fail
  refine (H1.out _ h1).mono ?_
  rintro e w3 ⟨rfl, h3, b3⟩
  have hP3 := hP.but b3 hne
  have hR3 := hR.but b3 hne1
  have b4 := b1.trans b3
  clear hP hR h1 b1 b3 H1
  obtain ⟨p0, p1, pf0, pf1⟩ := id hP3
  obtain ⟨r0, r1, rf0, rf1⟩ := id hR3
  go_wp2_with fail
  go_region
  all_goals go_wp2
  all_goals
    have q1 := (hR3.set (.int .i64 a) (.int .i64 b)).drew
    exact bodyPost_ret (v := .tuple #[.int .u64 0, winV a b]) (by simp [results, Tryd.results64, go_sem, q1.x0, q1.x1]) rfl ⟨rfl, ((h3.other hne1 (by omega) _).other hne1 (by omega) _).drew, ((b4.setNew (by omega) 0 _).setNew (by omega) 1 _).drew⟩
set_option maxHeartbeats 1000000 in
/-- The first bit is 1, the second one 0, or there is none: a turn within the window. -/
theorem turn_hold (v : Value) (bs : List Bool) (q q1 q2 g : Nat) (a b : Int) (br br1 br2 : Bool) (w0 w : World) (PT : Nat → Nat → Bool → Prop) (h : Rd w0 w g v bs q br)
    (H1 : ∀ w : World, Rd w0 w g v bs q br → Calls Tryd.prog 63 #[ptr g, .int .i64 1] w fun e w' => e = .returned (.int .u64 1) ∧ Rd w0 w' g v bs q1 br1 ∧ But g w w')
    (H2 : ∀ w : World, Rd w0 w g v bs q1 br1 → Calls Tryd.prog 63 #[ptr g, .int .i64 1] w fun e w' => e = .returned (.int .u64 0) ∧ Rd w0 w' g v bs q2 br2 ∧ But g w w')
    (HT : ∀ w : World, Rd w0 w g v bs q2 br2 → Calls Tryd.prog 73 #[ptr g, winV a b] w fun e w' => ∃ (t q' : Nat) (br' : Bool), e = .returned (.int .u64 t) ∧ Rd w0 w' g v bs q' br' ∧ But g w w' ∧ PT t q' br') :
    Calls Tryd.prog 64 #[ptr g, winV a b] w fun e w' => ∃ (t q' : Nat) (br' : Bool), e = .returned (.tuple #[.int .u64 t, winV a b]) ∧ Rd w0 w' g v bs q' br' ∧ But g w w' ∧ PT t q' br' := by
  replace H1 := hide H1
  replace H2 := hide H2
  replace HT := hide HT
  obtain ⟨hP, hR⟩ := two_boxes w (.int .i64 a) (.int .i64 b)
  have hb0 := below_two w (.cells #[.int .i64 a, .int .i64 b] 76) (.cells #[.int .i64 0, .int .i64 0] 76)
  have h1 := h.next hb0
  have b1 : But g w _ := But.of hb0
  have hlt := h.lt
  have hne : w.heap.size ≠ g := by omega
  have hne1 : w.heap.size + 1 ≠ g := by omega
  have hw0 : w0.heap.size ≤ w.heap.size := h.old.size
  clear h hb0
  go_enter Tryd.func64, Tryd.ntmps64
  go_wp2_with fail
  refine (H1.out _ h1).mono ?_
  rintro e w3 ⟨rfl, h3, b3⟩
  have hP3 := hP.but b3 hne
  have hR3 := hR.but b3 hne1
  have b4 := b1.trans b3
  clear hP hR h1 b1 b3 H1
  go_wp2_with fail
  refine (H2.out _ h3).mono ?_
  rintro e w5 ⟨rfl, h5, b5⟩
  have hP5 := hP3.but b5 hne
  have hR5 := hR3.but b5 hne1
  have b6 := b4.trans b5
  clear hP3 hR3 h3 b4 b5 H2
  obtain ⟨p0, p1, pf0, pf1⟩ := id hP5
  obtain ⟨d0, d1, _, _⟩ := id hP5.drew
  have h5d := h5.drew
  have b6d := b6.drew
  have hP5d := hP5.drew
  have hR5d := hR5.drew
  go_wp2_with fail
  go_region_held3 (fun wx => wx.cell? ⟨w.heap.size, 0, none⟩ = some (.int .i64 a) ∧ wx.cell? ⟨w.heap.size, 1, none⟩ = some (.int .i64 b)) (refine ⟨?_, ?_⟩ <;> ((repeat (with_reducible refine (World.cell?_setCell_other _ _ _ _ (by simp)).trans ?_)); with_reducible assumption)) (first
    | (go_at_call 73; refine (HT.out _ h5d).mono ?_; rintro e w7 ⟨t, q7, br7, rfl, h7, b7, pt⟩; have Hpt := hide pt; clear pt; have hP7 := hP5d.but b7 hne; have hR7 := hR5d.but b7 hne1; have b8 := b6d.trans b7; obtain ⟨t0, t1, tf0, tf1⟩ := id hP7; obtain ⟨r0, r1, rf0, rf1⟩ := id hR7))
  go_wp2
  have q1 := hR7.set (.int .i64 a) (.int .i64 b)
  exact bodyPost_ret (v := .tuple #[.int .u64 t, winV a b]) (by simp [results, Tryd.results64, go_sem, q1.x0, q1.x1]) rfl ⟨t, q7, br7, rfl, (h7.other hne1 (by omega) _).other hne1 (by omega) _, (b8.setNew (by omega) 0 _).setNew (by omega) 1 _, Hpt.out⟩
theorem neq_win (w : World) (a b a' b' : Int) (h : ¬ (a' = a ∧ b' = b)) :
    (binOp .neq 76 (.agg #[.int .i64 a', .int .i64 b']) (.agg #[.int .i64 a, .int .i64 b])).run Tryd.prog w = .ok (.bool true) w := by
  rw [run_neq_struct, run_equalIn_struct w 9999 76 _ _ (by kernel_rfl) (by kernel_rfl)]
  have hf : (Tryd.prog.fieldsOf 76) = #[⟨"lead", 3, 0, false, "", "gaugehouse/xor", 0⟩, ⟨"tail", 3, 1, false, "", "gaugehouse/xor", 8⟩] := by kernel_rfl
  rw [hf]
  obtain ⟨D, hD⟩ : ∃ D, D + 1 = 9999 := ⟨9998, rfl⟩
  rw [← hD]
  clear hD hf
  by_cases h1 : (a' == a) = true
  · have h2 : (b' == b) = false := by
      rw [beq_eq_false_iff_ne]; intro e; exact h ⟨eq_of_beq h1, e⟩
    simp [go_sem, Tryd.underlying3, h1, h2]
  · rw [Bool.not_eq_true] at h1
    simp [go_sem, Tryd.underlying3, h1]
/-- A window that is told is not the one that Pack tells. -/
def Bad (t : Nat) (c d a b : Int) : Prop := ¬ (((P.lz t : Nat) : Int) = c ∧ ((P.tz t : Nat) : Int) = d) ∨ (a ≤ c ∧ b ≤ d)
instance (t : Nat) (c d a b : Int) : Decidable (Bad t c d a b) := by unfold Bad; infer_instance
set_option maxHeartbeats 4000000 in
/-- The first two bits are 1: a window is told. -/
theorem turn_new (v : Value) (bs : List Bool) (q q1 q2 g : Nat) (a b : Int) (br br1 br2 : Bool) (w0 w : World) (PW : Nat → Int → Nat → Bool → Prop) (PT : Nat → Int → Nat → Nat → Bool → Prop) (h : Rd w0 w g v bs q br) (ht : Tab w0)
    (H1 : ∀ w : World, Rd w0 w g v bs q br → Calls Tryd.prog 63 #[ptr g, .int .i64 1] w fun e w' => e = .returned (.int .u64 1) ∧ Rd w0 w' g v bs q1 br1 ∧ But g w w')
    (H2 : ∀ w : World, Rd w0 w g v bs q1 br1 → Calls Tryd.prog 63 #[ptr g, .int .i64 1] w fun e w' => e = .returned (.int .u64 1) ∧ Rd w0 w' g v bs q2 br2 ∧ But g w w')
    (HW : ∀ w : World, Rd w0 w g v bs q2 br2 → Calls Tryd.prog 74 #[ptr g] w fun e w' => ∃ (c : Nat) (d : Int) (q' : Nat) (br' : Bool), e = .returned (winV c d) ∧ Rd w0 w' g v bs q' br' ∧ But g w w' ∧ PW c d q' br')
    (HT : ∀ (c : Nat) (d : Int) (q3 : Nat) (br3 : Bool), PW c d q3 br3 → ∀ w : World, Rd w0 w g v bs q3 br3 → Calls Tryd.prog 73 #[ptr g, winV c d] w fun e w' => ∃ (t q' : Nat) (br' : Bool), e = .returned (.int .u64 t) ∧ t < 18446744073709551616 ∧ Rd w0 w' g v bs q' br' ∧ But g w w' ∧ PT c d t q' br') :
    Calls Tryd.prog 64 #[ptr g, winV a b] w fun e w' => ∃ (c : Nat) (d : Int) (t q' : Nat) (br' : Bool), e = .returned (.tuple #[.int .u64 t, winV c d]) ∧ Rd w0 w' g v bs q' (br' || decide (Bad t c d a b)) ∧ But g w w' ∧ PT c d t q' br' := by
  replace H1 := hide H1
  replace H2 := hide H2
  replace HW := hide HW
  replace HT := hide HT
  obtain ⟨hP, hR⟩ := two_boxes w (.int .i64 a) (.int .i64 b)
  have hb0 := below_two w (.cells #[.int .i64 a, .int .i64 b] 76) (.cells #[.int .i64 0, .int .i64 0] 76)
  have h1 := h.next hb0
  have b1 : But g w _ := But.of hb0
  have hlt := h.lt
  have hne : w.heap.size ≠ g := by omega
  have hne1 : w.heap.size + 1 ≠ g := by omega
  have hw0 : w0.heap.size ≤ w.heap.size := h.old.size
  clear h hb0
  go_enter Tryd.func64, Tryd.ntmps64
  go_wp2_with fail
  refine (H1.out _ h1).mono ?_
  rintro e w3 ⟨rfl, h3, b3⟩
  have hP3 := hP.but b3 hne
  have hR3 := hR.but b3 hne1
  have b4 := b1.trans b3
  clear hP hR h1 b1 b3 H1
  go_wp2_with fail
  refine (H2.out _ h3).mono ?_
  rintro e w5 ⟨rfl, h5, b5⟩
  have hP5 := hP3.but b5 hne
  have hR5 := hR3.but b5 hne1
  have b6 := b4.trans b5
  clear hP3 hR3 h3 b4 b5 H2
  go_wp2_with fail
  refine (HW.out _ h5).mono ?_
  rintro e w7 ⟨c, d, q7, br7, rfl, h7, b7, pw⟩
  have hP7 := hP5.but b7 hne
  have hR7 := hR5.but b7 hne1
  have b8 := b6.trans b7
  replace HT := hide (HT.out c d q7 br7 pw)
  clear hP5 hR5 h5 b6 b7 HW pw
  have hl7 := h7.lt
  have hr7 := hR7.lt
  have hne7 : w7.heap.size ≠ g := by omega
  have hT8 := B2.new w7 (.int .i64 c) (.int .i64 d) 76
  have hP8 := hP7.alloc (.cells #[.int .i64 c, .int .i64 d] 76)
  have hR8 := hR7.alloc (.cells #[.int .i64 c, .int .i64 d] 76)
  have hbx := (Below.refl w7.heap.size w7).alloc (Nat.le_refl _) (.cells #[.int .i64 c, .int .i64 d] 76)
  have h8 := h7.next hbx
  have b9 := b8.trans (But.of hbx)
  obtain ⟨z0, z1, zf0, zf1⟩ := id hT8
  go_wp2_with fail
  clear z0 z1 zf0 zf1 hbx hP7 hR7 h7 b8
  generalize World.alloc w7 _ = W8 at hT8 hP8 hR8 h8 b9 ⊢
  refine (HT.out _ h8).mono ?_
  rintro e w9 ⟨t, q9, br9, rfl, ht9, h9, b9', pt⟩
  have Hpt := hide pt
  have hT9 := hT8.but b9' hne7
  have hP9 := hP8.but b9' hne
  have hR9 := hR8.but b9' hne1
  have c9 := b9.trans b9'
  have htb : Tab w9 := ht.next h9.old
  clear pt hT8 hP8 hR8 h8 b9 b9' HT
  have HWn := hide (fun (w : World) (ht : Tab w) => windowOf_any t w ht9 ht)
  have hTd := hT9.drew
  have hPd := hP9.drew
  have hRd := hR9.drew
  have hd := h9.drew
  have cd := c9.drew
  have htd := Tab.drew htb
  have hRT : w.heap.size + 1 ≠ w7.heap.size := by omega
  obtain ⟨t0, t1, tf0, tf1⟩ := id hT9
  obtain ⟨p0, p1, pf0, pf1⟩ := id hP9
  obtain ⟨td0, td1, _, _⟩ := id hTd
  obtain ⟨pd0, pd1, _, _⟩ := id hPd
  by_cases heq : ((P.lz t : Nat) : Int) = c ∧ ((P.tz t : Nat) : Int) = d
  · rw [heq.1, heq.2] at HWn
    by_cases hh : a ≤ (c : Int) ∧ b ≤ d
    · have HB : Hid (decide (Bad t c d a b) = true) := by show _ = _; rw [decide_eq_true_eq]; exact .inr hh
      have HHd := hide (fun w => holds_yes a b c d w hh.1 hh.2)
      clear heq hh
      go_wp2_with fail
      go_region_held3 (fun wx => wx.cell? ⟨w7.heap.size, 0, none⟩ = some (.int .i64 c) ∧ wx.cell? ⟨w7.heap.size, 1, none⟩ = some (.int .i64 d) ∧ wx.cell? ⟨w.heap.size, 0, none⟩ = some (.int .i64 a) ∧ wx.cell? ⟨w.heap.size, 1, none⟩ = some (.int .i64 b)) (refine ⟨?_, ?_, ?_, ?_⟩ <;> ((repeat (with_reducible refine (World.cell?_setCell_other _ _ _ _ (by simp)).trans ?_)); with_reducible assumption)) (first
        | (go_at_call 57; refine (HWn.out _ htd).mono ?_; rintro e wA ⟨rfl, hbA⟩; have hTA := hTd.next hbA; have hPA := hPd.next hbA; have hRA := hRd.next hbA; have hA := hd.next hbA; have cA := cd.trans (But.of (g := g) hbA); obtain ⟨ta0, ta1, taf0, taf1⟩ := id hTA; obtain ⟨pa0, pa1, paf0, paf1⟩ := id hPA)
        | (go_at_call 58; refine (HHd.out _).mono ?_; rintro e wB ⟨rfl, hbB⟩; have hTE := hTA.next hbB; have hPE := hPA.next hbB; have hRE := hRA.next hbB; have hE := hA.next hbB; have cE := cA.trans (But.of (g := g) hbB); obtain ⟨tb0, tb1, tbf0, tbf1⟩ := id hTE; obtain ⟨pb0, pb1, pbf0, pbf1⟩ := id hPE))
      all_goals
        have hRX := hRE.but ((But.refl g _).setCell 3 (.bool true)) hne1
        have hX := hE.setBr
        have cX := cE.setCell 3 (.bool true)
        have hTX := hTE.but ((But.refl g _).setCell 3 (.bool true)) hne7
        obtain ⟨ko, kg, k0, k1, k2, k3, kf2, kf3⟩ := id hE
        obtain ⟨r0, r1, rf0, rf1⟩ := id hRX
        obtain ⟨u0, u1, uf0, uf1⟩ := id hTX
        obtain ⟨u0', u1', _, _⟩ := id hTE
        go_wp2_with fail
        go_region
        all_goals go_wp2
        all_goals
          have q1 := (hRX.set (.int .i64 c) (.int .i64 d)).drew
          refine bodyPost_ret (v := .tuple #[.int .u64 t, winV c d]) (by simp [results, Tryd.results64, go_sem, q1.x0, q1.x1]) rfl ⟨c, d, t, q9, br9, rfl, ?_, ((cX.setNew (by omega) 0 _).setNew (by omega) 1 _).drew, Hpt.out⟩
          rw [HB.out, Bool.or_true]
          exact ((hX.other hne1 (by omega) _).other hne1 (by omega) _).drew
    · have HB : Hid (decide (Bad t c d a b) = false) := by
        show _ = _; rw [decide_eq_false_iff_not]; rintro (hx | hx)
        · exact hx heq
        · exact hh hx
      have HHd := hide (fun w => holds_no a b c d w hh)
      clear heq hh
      go_wp2_with fail
      go_region_held3 (fun wx => wx.cell? ⟨w7.heap.size, 0, none⟩ = some (.int .i64 c) ∧ wx.cell? ⟨w7.heap.size, 1, none⟩ = some (.int .i64 d) ∧ wx.cell? ⟨w.heap.size, 0, none⟩ = some (.int .i64 a) ∧ wx.cell? ⟨w.heap.size, 1, none⟩ = some (.int .i64 b)) (refine ⟨?_, ?_, ?_, ?_⟩ <;> ((repeat (with_reducible refine (World.cell?_setCell_other _ _ _ _ (by simp)).trans ?_)); with_reducible assumption)) (first
        | (go_at_call 57; refine (HWn.out _ htd).mono ?_; rintro e wA ⟨rfl, hbA⟩; have hTA := hTd.next hbA; have hPA := hPd.next hbA; have hRA := hRd.next hbA; have hA := hd.next hbA; have cA := cd.trans (But.of (g := g) hbA); obtain ⟨ta0, ta1, taf0, taf1⟩ := id hTA; obtain ⟨pa0, pa1, paf0, paf1⟩ := id hPA)
        | (go_at_call 58; refine (HHd.out _).mono ?_; rintro e wB ⟨rfl, hbB⟩; have hTE := hTA.next hbB; have hPE := hPA.next hbB; have hRE := hRA.next hbB; have hE := hA.next hbB; have cE := cA.trans (But.of (g := g) hbB); obtain ⟨tb0, tb1, tbf0, tbf1⟩ := id hTE; obtain ⟨pb0, pb1, pbf0, pbf1⟩ := id hPE))
      all_goals
        have hRX := hRE
        have hX := hE
        have cX := cE
        have hTX := hTE
        obtain ⟨ko, kg, k0, k1, k2, k3, kf2, kf3⟩ := id hE
        obtain ⟨r0, r1, rf0, rf1⟩ := id hRX
        obtain ⟨u0, u1, uf0, uf1⟩ := id hTX
        obtain ⟨u0', u1', _, _⟩ := id hTE
        go_wp2_with fail
        go_region
        all_goals go_wp2
        all_goals
          have q1 := (hRX.set (.int .i64 c) (.int .i64 d)).drew
          refine bodyPost_ret (v := .tuple #[.int .u64 t, winV c d]) (by simp [results, Tryd.results64, go_sem, q1.x0, q1.x1]) rfl ⟨c, d, t, q9, br9, rfl, ?_, ((cX.setNew (by omega) 0 _).setNew (by omega) 1 _).drew, Hpt.out⟩
          rw [HB.out, Bool.or_false]
          exact ((hX.other hne1 (by omega) _).other hne1 (by omega) _).drew
  · have HB : Hid (decide (Bad t c d a b) = true) := by show _ = _; rw [decide_eq_true_eq]; exact .inl heq
    obtain ⟨sv, hsv⟩ : ∃ sv, sv = winV (P.lz t : Nat) (P.tz t : Nat) := ⟨_, rfl⟩
    have hq : ∀ w : World, (binOp .neq 76 sv (.agg #[.int .i64 c, .int .i64 d])).run Tryd.prog w = .ok (.bool true) w := by
      intro w; rw [hsv]; exact neq_win w _ _ _ _ heq
    have hgd : ∀ (x y : Operand) (w : World), (eqGuard .neq 76 x y sv (.agg #[.int .i64 c, .int .i64 d])).run Tryd.prog w = .ok () w := by
      intro x y w; rw [hsv]; exact run_eqGuard_agg w _ _ _ _ _ _ (by kernel_rfl)
    rw [← hsv] at HWn
    clear heq hsv
    go_wp2_with fail
    go_region_with (first
      | (go_at_call 57; refine (HWn.out _ htd).mono ?_; rintro e wA ⟨rfl, hbA⟩; have hTA := hTd.next hbA; have hPA := hPd.next hbA; have hRA := hRd.next hbA; have hA := hd.next hbA; have cA := cd.trans (But.of (g := g) hbA); have hTE := hTA; have hRE := hRA; have hE := hA; have cE := cA; obtain ⟨ta0, ta1, taf0, taf1⟩ := id hTA; obtain ⟨pa0, pa1, paf0, paf1⟩ := id hPA))
    all_goals
      have hRX := hRE.but ((But.refl g _).setCell 3 (.bool true)) hne1
      have hX := hE.setBr
      have cX := cE.setCell 3 (.bool true)
      have hTX := hTE.but ((But.refl g _).setCell 3 (.bool true)) hne7
      obtain ⟨ko, kg, k0, k1, k2, k3, kf2, kf3⟩ := id hE
      obtain ⟨r0, r1, rf0, rf1⟩ := id hRX
      obtain ⟨u0, u1, uf0, uf1⟩ := id hTX
      obtain ⟨u0', u1', _, _⟩ := id hTE
      go_wp2_with fail
      go_region
      all_goals go_wp2
      all_goals
        have q1 := (hRX.set (.int .i64 c) (.int .i64 d)).drew
        refine bodyPost_ret (v := .tuple #[.int .u64 t, winV c d]) (by simp [results, Tryd.results64, go_sem, q1.x0, q1.x1]) rfl ⟨c, d, t, q9, br9, rfl, ?_, ((cX.setNew (by omega) 0 _).setNew (by omega) 1 _).drew, Hpt.out⟩
        rw [HB.out, Bool.or_true]
        exact ((hX.other hne1 (by omega) _).other hne1 (by omega) _).drew
end X
end Go.Proofs.YtfjbdgkdkbcnhaaDoor
