/- Words and laws of my own for rows of labels and of matches: rows that are read, rows that the call owns, how one is put behind them, and how arguments are opened. -/
import Derived.Test.YtlghnnmgbdjgoaaKitK
import Derived.Test.YtlghnnmgbdjgoaaFrame
import Derived.Test.YtlghnnmgbdjgoaaLabelP
import Derived.Deep.SlicePairs
import Derived.Lib.SmallJoins
import Derived.ChangeMaps5
import Derived.Deep.QuietTactic
import Derived.BigQuiet
import Derived.Deep.RegionHeld3
import Derived.Deep.DeepCutAuto
import Derived.Deep.OwnRows
import Derived.Deep.RegionLaw
namespace Go.Proofs.Ytlghnnmgbdjgoaa
open Go.ChangeShapes Go.WideShapes Go.ChangeAt Go.RowKit Go.Joins
set_option linter.unusedVariables false

theorem below_dn {B : Nat} {a w : World} (h : Below B a w) (n : Nat) : Below B a (w.drewN n) := ⟨h.os, h.tape, h.output, h.size, h.block⟩
/-- A row of structs that can be read: e lays one out in k cells. -/
def RowX {α : Type} (e : α → List Value) (k : Nat) (w : World) (v : Value) (l : List α) : Prop :=
  ∃ a cap, v = .slice a l.length cap ∧ (l.length ≤ cap ∧ cap ≤ maxLen ∧ (a = none → cap = 0)) ∧ (l = [] ∨ ∃ b off, a = some ⟨b, off, none⟩ ∧ b < w.heap.size ∧ ∀ j x, l[j]? = some x → ∀ i u, (e x)[i]? = some u → w.cell? ⟨b, off + j * k + i, none⟩ = some u)
theorem RowX.below {α : Type} {e : α → List Value} {k : Nat} {w w' : World} {B : Nat} {v : Value} {l : List α} (h : RowX e k w v l) (hb : Below B w w') (hB : w.heap.size ≤ B) : RowX e k w' v l := by
  obtain ⟨a, cap, rfl, hl, h⟩ := h
  refine ⟨a, cap, rfl, hl, ?_⟩
  rcases h with h | ⟨b, off, rfl, hlt, hc⟩
  · exact .inl h
  · exact .inr ⟨b, off, rfl, Nat.lt_of_lt_of_le hlt hb.size, fun j x hx i u hu => (hb.cell (p := ⟨b, off + j * k + i, none⟩) (Nat.lt_of_lt_of_le hlt hB)).trans (hc j x hx i u hu)⟩
theorem RowX.nil {α : Type} (e : α → List Value) (k : Nat) (w : World) : RowX e k w (.slice none 0 0) [] := ⟨none, 0, rfl, ⟨by simp, by simp, fun _ => rfl⟩, .inl rfl⟩
/-- One struct in a new block. -/
theorem RowX.one {α : Type} (e : α → List Value) (k : Nat) (w : World) (x : α) (t : TypeId) : RowX e k (w.alloc (.cells (e x).toArray t)) (.slice (some ⟨w.heap.size, 0, none⟩) 1 1) [x] := by
  refine ⟨_, 1, rfl, ⟨by simp, by decide, fun h => by cases h⟩, .inr ⟨w.heap.size, 0, rfl, by simp, fun j y hy i u hu => ?_⟩⟩
  match j, hy with
  | 0, hy =>
    simp at hy; subst hy
    simp [hu]
/-- The cells of a row. -/
theorem flat_at {α : Type} {e : α → List Value} {k : Nat} (he : ∀ x, (e x).length = k) (l : List α) (j i : Nat) (x : α) (u : Value) (hx : l[j]? = some x) (hu : (e x)[i]? = some u) : (l.flatMap e)[j * k + i]? = some u := by
  induction l generalizing j with
  | nil => simp at hx
  | cons y l ih =>
    have hi : i < (e x).length := by
      rcases Nat.lt_or_ge i (e x).length with h | h
      · exact h
      · rw [List.getElem?_eq_none h] at hu; cases hu
    cases j with
    | zero =>
      simp at hx; subst hx
      rw [List.flatMap_cons, Nat.zero_mul, Nat.zero_add, List.getElem?_append_left hi]; exact hu
    | succ j =>
      rw [List.flatMap_cons, show (j + 1) * k + i = k + (j * k + i) by rw [Nat.succ_mul]; omega, List.getElem?_append_right (by rw [he]; omega), he]
      rw [show k + (j * k + i) - k = j * k + i by omega]
      exact ih j (by simpa using hx)
theorem flat_len {α : Type} {e : α → List Value} {k : Nat} (he : ∀ x, (e x).length = k) (l : List α) : (l.flatMap e).length = l.length * k := by
  induction l with
  | nil => simp
  | cons y l ih => rw [List.flatMap_cons, List.length_append, he, ih, List.length_cons, Nat.succ_mul]; omega
theorem flat_of {α : Type} {e : α → List Value} {k : Nat} (he : ∀ x, (e x).length = k) (hk : 0 < k) (l : List α) (n : Nat) (u : Value) (h : (l.flatMap e)[n]? = some u) : ∃ x, l[n / k]? = some x ∧ (e x)[n % k]? = some u := by
  have hn : n < l.length * k := by
    rcases Nat.lt_or_ge n (l.flatMap e).length with h' | h'
    · rwa [flat_len he] at h'
    · rw [List.getElem?_eq_none h'] at h; cases h
  have hj : n / k < l.length := by rw [Nat.div_lt_iff_lt_mul hk]; exact hn
  have hi : n % k < k := Nat.mod_lt _ hk
  refine ⟨l[n / k], List.getElem?_eq_getElem hj, ?_⟩
  have h2 := flat_at he l (n / k) (n % k) _ ((e l[n / k])[n % k]'(by rw [he]; exact hi)) (List.getElem?_eq_getElem hj) (List.getElem?_eq_getElem _)
  rw [Nat.mul_comm, Nat.div_add_mod] at h2
  rw [h2] at h
  rw [List.getElem?_eq_getElem (by rw [he]; exact hi)]
  exact h

def lbC (x : P.Lb) : List Value := [.string x.1, .string x.2]
def mtC (x : P.Mt) : List Value := [.int .i64 x.1, .string x.2.1, .string x.2.2]
abbrev RowL (w : World) (v : Value) (l : List P.Lb) : Prop := RowX lbC 2 w v l
abbrev RowM (w : World) (v : Value) (l : List P.Mt) : Prop := RowX mtC 3 w v l
/-- Rows that the call itself made. -/
def OwnX {α : Type} (e : α → List Value) (k : Nat) (t : TypeId) (w : World) (base : Nat) (v : Value) (l : List α) : Prop := w.ownsRow base t k v l.length (l.flatMap e)
theorem OwnX.row {α : Type} {e : α → List Value} {k : Nat} {t : TypeId} (he : ∀ x, (e x).length = k) {w : World} {base : Nat} {v : Value} {l : List α} (h : OwnX e k t w base v l) : RowX e k w v l := by
  obtain ⟨h1, h2⟩ := h
  rcases h2 with ⟨rfl, h0⟩ | ⟨g, cap, cur, rfl, hb, hg, hn, hm, hs, ht⟩
  · have : l = [] := List.length_eq_zero_iff.1 h0
    subst this
    exact RowX.nil e k w
  · refine ⟨_, cap, rfl, ⟨hn, hm, fun h => by cases h⟩, .inr ⟨g, 0, rfl, (Array.getElem?_eq_some_iff.1 hg).1, fun j x hx i u hu => ?_⟩⟩
    have hf := flat_at he l j i x u hx hu
    have hlt : j * k + i < l.length * k := by
      rcases Nat.lt_or_ge (j * k + i) (l.flatMap e).length with h | h
      · rwa [flat_len he] at h
      · rw [List.getElem?_eq_none h] at hf; cases hf
    have h3 : (cur.toList.take (l.length * k))[j * k + i]? = (l.flatMap e)[j * k + i]? := by rw [ht]
    rw [List.getElem?_take, if_pos hlt, hf] at h3
    have h4 : cur[j * k + i]? = some u := by rw [← Array.getElem?_toList, h3]
    simp [World.cell?, hg, h4]
theorem OwnX.below {α : Type} {e : α → List Value} {k : Nat} {t : TypeId} {w w' : World} {base B : Nat} {v : Value} {l : List α} (h : OwnX e k t w base v l) (hb : Below B w w') (hB : w.heap.size ≤ B) : OwnX e k t w' base v l := by
  obtain ⟨h1, h2⟩ := h
  refine ⟨h1, ?_⟩
  rcases h2 with h2 | ⟨g, cap, cur, rfl, hg, hh, r⟩
  · exact .inl h2
  · exact .inr ⟨g, cap, cur, rfl, hg, by rw [hb.block g (Nat.lt_of_lt_of_le (Array.getElem?_eq_some_iff.1 hh).1 hB)]; exact hh, r⟩
theorem OwnX.base {α : Type} {e : α → List Value} {k : Nat} {t : TypeId} {w : World} {b b' : Nat} {v : Value} {l : List α} (h : OwnX e k t w b v l) (hb : b' ≤ b) : OwnX e k t w b' v l := by
  obtain ⟨h1, h2⟩ := h
  refine ⟨h1, ?_⟩
  rcases h2 with h2 | ⟨g, cap, cur, rfl, hg, r⟩
  · exact .inl h2
  · exact .inr ⟨g, cap, cur, rfl, Nat.le_trans hb hg, r⟩
theorem OwnX.nil {α : Type} (e : α → List Value) (k : Nat) (t : TypeId) (w : World) (base : Nat) : OwnX e k t w base (.slice none 0 0) [] := World.ownsRow_nil _ _ _ _
/-- 'append(b, x...)' of a row that can be read to a row of the call's own: what the operation does. -/
theorem op_appX {α : Type} {e : α → List Value} {k bt : Nat} {tS tE : TypeId} {z : Value} (he : ∀ x, (e x).length = k) (hone : ∀ x, ∀ u ∈ e x, u.oneCell' = true) (hk : 0 < k) (hbt : 0 < bt) (hzk : z.cells.size = k)
    (hu : Try.prog.underlying tS = some (.slice tE)) (hinf : (Try.prog.info? tE).map (fun i => (i.zero, i.size, i.bytes)) = some (some z, k, bt))
    {o : Oper} {a : Act} {K : Act → World → Prop} {Q : Exit → Act → World → Prop} (s x : Operand)
    (ho : o.op = .call { callee := .builtin .append, args := #[s, x], argTypes := #[tS, tS] })
    (B base : Nat) (w0 w : World) (v vx : Value) (acc l : List α) (hown : OwnX e k tE w base v acc) (hrow : RowX e k w vx l) (hb : Below B w0 w) (hB : B ≤ base) (hs : a.eval s = v)
    (hx : a.eval x = vx) (hlen : (acc.length + l.length) * bt ≤ 140737488355328) (hbase : base ≤ w.heap.size)
    (h : ∀ v' w', OwnX e k tE w' base v' (acc ++ l) → Below B w0 w' → w.heap.size ≤ w'.heap.size → w.grownBy w' v.ownBlock → K (a.put o.dst v') w') :
    Oper.wp Try.prog o a w K Q := by
  obtain ⟨i0, hi, hz0, hz1, hz2⟩ := info_parts hinf
  obtain ⟨ao, cap, rfl, ⟨hlc, hcm, hnn⟩, hcase⟩ := hrow
  have hle : acc.length + l.length ≤ (acc.length + l.length) * bt := Nat.le_mul_of_pos_right _ hbt
  have go : ∀ ad : Addr, ao = some ad → (∀ j u, (l.flatMap e)[j]? = some u → w.cell? (ad.add j) = some u) → Oper.wp Try.prog o a w K Q := by
    intro ad hao hc
    subst hao
    refine wp_append_own _ s x tS ho base tE i0 z k bt hu hi hz0 hz1 hz2 hzk hk v _ _ hs hown ad l.length cap (l.flatMap e) hx (flat_len he l) hc (fun u hu => by obtain ⟨y, _, hy⟩ := List.mem_flatMap.1 hu; exact hone y u hy) ?_ ?_ hbase ?_
    · unfold maxLen; omega
    · exact hlen
    · intro v' w' ho' hg _
      refine h v' w' ?_ (hb.grown hg (by omega) ?_) hg.size hg
      · have e1 : (acc ++ l).length = acc.length + l.length := by simp
        show w'.ownsRow base tE k v' (acc ++ l).length ((acc ++ l).flatMap e)
        rw [e1, List.flatMap_append]; exact ho'
      · intro j hj; have := (World.ownsRow.lt hown j hj).1; omega
  rcases hcase with h0 | ⟨b, off, rfl, hbs, hcell⟩
  · subst h0
    cases ao with
    | none =>
      have hcap := hnn rfl
      subst hcap
      have hrun := run_append_owned_none (P := Try.prog) (w := w) base tS o.type tE i0 k hu hi v _ _ hown
      have hx' : a.eval x = .slice none 0 0 := hx
      unfold Oper.wp
      simp [execOp, ho, resolve, invoke, builtin, hs, hx', hrun, Result.andThen]
      exact h v w (by rw [List.append_nil]; exact hown) hb (Nat.le_refl _) ⟨rfl, rfl, rfl, Nat.le_refl _, fun _ _ _ => rfl⟩
    | some ad => exact go ad rfl (fun j u hj => by simp at hj)
  · refine go _ rfl (fun j u hj => ?_)
    have ea : (Addr.add ⟨b, off, none⟩ j) = ⟨b, off + j, none⟩ := by
      unfold Addr.add; split
      · rename_i h; subst h; rfl
      · rfl
    obtain ⟨y, hy, hu⟩ := flat_of he hk l j u hj
    rw [ea]
    have := hcell (j / k) y hy (j % k) u hu
    rw [Nat.add_assoc, Nat.mul_comm, Nat.div_add_mod] at this
    exact this
/-- 'append(b, x)' of one struct that lies in a new block, where the walk stands at it. -/
theorem wp_oneX {α : Type} {e : α → List Value} {k bt : Nat} {tS tE : TypeId} {z : Value} (he : ∀ x, (e x).length = k) (hone : ∀ x, ∀ u ∈ e x, u.oneCell' = true) (hk : 0 < k) (hbt : 0 < bt) (hzk : z.cells.size = k)
    (hu : Try.prog.underlying tS = some (.slice tE)) (hinf : (Try.prog.info? tE).map (fun i => (i.zero, i.size, i.bytes)) = some (some z, k, bt))
    {ops : Array Oper} {rest : List Oper} {o : Oper} {a : Act} {Q : Exit → Act → World → Prop} (hgd : o.guard = none) (s x : Operand)
    (ho : o.op = .call { callee := .builtin .append, args := #[s, x], argTypes := #[tS, tS] })
    (B base : Nat) (w0 w : World) (v : Value) (acc : List α) (y : α) (c : Array Value) (hc : c = (e y).toArray) (hown : OwnX e k tE w base v acc) (hb : Below B w0 w) (hB : B ≤ base) (hs : a.eval s = v)
    (hx : a.eval x = .slice (some ⟨w.heap.size, 0, none⟩) 1 1) (hlen : (acc.length + 1) * bt ≤ 140737488355328) (hbase : base ≤ w.heap.size) (hBw : B ≤ w.heap.size)
    (h : ∀ v' w', OwnX e k tE w' base v' (acc ++ [y]) → Below B w0 w' → w.heap.size < w'.heap.size → w.grownBy w' v.ownBlock → wpList Try.prog ops Q rest (a.put o.dst v') w') :
    wpList Try.prog ops Q (o :: rest) a (w.alloc (.cells c tE)) := by
  subst hc
  refine wpList_step fun K hK => ?_
  rw [if_pos (by simp [Region.wanted, hgd])]
  refine op_appX he hone hk hbt hzk hu hinf s x ho B base w0 _ v _ acc [y] (hown.below ((Below.refl _ w).alloc (Nat.le_refl _) (.cells (e y).toArray tE)) (Nat.le_refl _)) (RowX.one e k w y tE) (hb.alloc hBw _) hB hs hx (by simpa using hlen)
    (by simp; omega) fun v' w' a1 a2 a3 a4 => ?_
  have a5 : (w.alloc (.cells (e y).toArray tE)).heap.size ≤ w'.heap.size := a3
  simp at a5
  exact hK _ _ (h v' w' a1 a2 (by omega) ((World.grownBy_alloc w _ _).trans a4))

theorem lbC_len (x : P.Lb) : (lbC x).length = 2 := rfl
theorem mtC_len (x : P.Mt) : (mtC x).length = 3 := rfl
theorem lbC_one (x : P.Lb) : ∀ u ∈ lbC x, u.oneCell' = true := by intro u hu; simp [lbC] at hu; rcases hu with rfl | rfl <;> rfl
theorem mtC_one (x : P.Mt) : ∀ u ∈ mtC x, u.oneCell' = true := by intro u hu; simp [mtC] at hu; rcases hu with rfl | rfl | rfl <;> rfl
theorem infoL : (Try.prog.info? 32).map (fun i => (i.zero, i.size, i.bytes)) = some (some (.agg #[.string ⟨#[]⟩, .string ⟨#[]⟩]), 2, 32) := by kernel_rfl
theorem infoM : (Try.prog.info? 56).map (fun i => (i.zero, i.size, i.bytes)) = some (some (.agg #[.int .i64 0, .string ⟨#[]⟩, .string ⟨#[]⟩]), 3, 40) := by kernel_rfl
theorem cells32 : Try.prog.cellsOf 32 = 2 := by kernel_rfl
theorem cells56 : Try.prog.cellsOf 56 = 3 := by kernel_rfl
theorem bytes32 : Try.prog.bytesOf 32 = 32 := by kernel_rfl
theorem bytes56 : Try.prog.bytesOf 56 = 40 := by kernel_rfl
theorem cells9 : Try.prog.cellsOf 9 = 1 := by kernel_rfl
theorem cells3 : Try.prog.cellsOf 3 = 1 := by kernel_rfl
abbrev OwnL (w : World) (base : Nat) (v : Value) (l : List P.Lb) : Prop := OwnX lbC 2 32 w base v l
abbrev OwnM (w : World) (base : Nat) (v : Value) (l : List P.Mt) : Prop := OwnX mtC 3 56 w base v l
theorem OwnM.row {w : World} {base : Nat} {v : Value} {l : List P.Mt} (h : OwnM w base v l) : RowM w v l := OwnX.row mtC_len h
theorem OwnL.row {w : World} {base : Nat} {v : Value} {l : List P.Lb} (h : OwnL w base v l) : RowL w v l := OwnX.row lbC_len h
/-- What an element's cells hold. -/
theorem RowL.at {w : World} {b off : Nat} {l : List P.Lb} (hc : ∀ j x, l[j]? = some x → ∀ i u, (lbC x)[i]? = some u → w.cell? ⟨b, off + j * 2 + i, none⟩ = some u) {k : Nat} {x : P.Lb} (hx : l[k]? = some x) :
    w.cell? ⟨b, off + k * 2, none⟩ = some (.string x.1) ∧ w.cell? ⟨b, off + k * 2 + 1, none⟩ = some (.string x.2) := ⟨hc k x hx 0 _ rfl, hc k x hx 1 _ rfl⟩
theorem RowM.at {w : World} {b off : Nat} {l : List P.Mt} (hc : ∀ j x, l[j]? = some x → ∀ i u, (mtC x)[i]? = some u → w.cell? ⟨b, off + j * 3 + i, none⟩ = some u) {k : Nat} {x : P.Mt} (hx : l[k]? = some x) :
    w.cell? ⟨b, off + k * 3, none⟩ = some (.int .i64 x.1) ∧ w.cell? ⟨b, off + k * 3 + 1, none⟩ = some (.string x.2.1) ∧ w.cell? ⟨b, off + k * 3 + 2, none⟩ = some (.string x.2.2) := ⟨hc k x hx 0 _ rfl, hc k x hx 1 _ rfl, hc k x hx 2 _ rfl⟩
/-- Behind a new block whatever was there is there. -/
theorem RowX.alloc {α : Type} {e : α → List Value} {k : Nat} {w : World} {v : Value} {l : List α} (h : RowX e k w v l) (o : Obj) : RowX e k (w.alloc o) v l := h.below ((Below.refl _ w).alloc (Nat.le_refl _) o) (Nat.le_refl _)

/-- Texts within what can be there. -/
def LbOk (l : List P.Lb) : Prop := ∀ x ∈ l, x.1.size ≤ 9223372036854775807 ∧ x.2.size ≤ 9223372036854775807
def MtOk1 (x : P.Mt) : Prop := (-9223372036854775808 ≤ x.1 ∧ x.1 ≤ 9223372036854775807) ∧ x.2.1.size ≤ 9223372036854775807 ∧ x.2.2.size ≤ 9223372036854775807
def MtOk (l : List P.Mt) : Prop := ∀ x ∈ l, MtOk1 x

def strOf : Value → ByteArray
  | .string s => s
  | _ => ByteArray.empty
/-- The reach of a slice that stands itself among the arguments, by its length. -/
theorem row_reachN {H : Type} {ts : List TypeId} {ds : List (DataW H)} (hsz : (DataW.weightsEach Try.prog ts ds).all (· ≤ reachBytes) = true) {j : Nat} {d : DataW H} {t e : TypeId} {n : Nat} (ht : ts[j]? = some t) (hd : ds[j]? = some d)
    (hu : Try.prog.underlying t = some (.slice e)) (h : d = .nil ∧ n = 0 ∨ ∃ elems spare, d = .slice elems spare ∧ elems.length = n) : n * Try.prog.bytesOf e ≤ 140737488351232 := by
  rcases h with ⟨_, rfl⟩ | ⟨el, sp, rfl, hl⟩
  · simp
  · have := sized_slice hsz ht hd hu
    have h2 : n * Try.prog.bytesOf e ≤ (el.length + sp.length) * Try.prog.bytesOf e := Nat.mul_le_mul_right _ (by omega)
    have h3 : reachBytes = 140737488351232 := rfl
    omega
/-- How many bytes the second form lets a text have. -/
theorem bulk_string {H : Type} {ds : List (DataW H)} {s : ByteArray} (hk : Rows.uptoSmall H ds = true) (hd : DataW.lit (.string s.data.toList) ∈ ds) : s.size ≤ 1048576 := by
  have h1 := bulk_mem hd
  have h2 := bulk_small hk
  simp only [Rows.uptoBulk] at h1
  rw [Lib.size_eq]
  omega
/-- A slice of labels that came in, opened. -/
theorem open_labels {H : Type} {enc : TypeId × Value → H} {W : World} {a : Option Addr} {len cap : Nat} {d : DataW H} {p : List MemPlace}
    (h : ∃ fuel, DataW.trod enc Try.prog W 0 (fun _ => true) true fuel 28 [.slice a len cap] = some (d, p)) :
    ∃ l : List P.Lb, RowL W (.slice a len cap) l ∧ LbOk l ∧ (d = .nil ∧ l.length = 0 ∨ ∃ elems spare, d = .slice elems spare ∧ elems.length = l.length) := by
  obtain ⟨fuel, hf⟩ := h
  rcases Go.Deep.open_slice_pairs Try.underlying28 Try.underlying32 cells32 rfl rfl cells9 cells9 hf with ⟨hcs, hx⟩ | ⟨x, l, c, m, n, V0, V1, D0, D1, P0, P1, hcs, _, hl, hm, hmm, hx, hcell⟩
  · simp at hcs hx
    obtain ⟨rfl, rfl, rfl⟩ := hcs
    exact ⟨[], RowX.nil _ _ W, (fun s hs => by cases hs), .inl ⟨hx.1, rfl⟩⟩
  · simp at hcs hx hmm
    obtain ⟨rfl, rfl, rfl⟩ := hcs
    have key : ∀ i, i < len → (∃ z, V0 i = .string z ∧ z.size ≤ maxLen) ∧ ∃ z, V1 i = .string z ∧ z.size ≤ maxLen := by
      intro i hi
      obtain ⟨_, _, h0, h1⟩ := hcell i (by omega)
      obtain ⟨z0, e0, _, w0⟩ := DataW.trod_string Try.underlying9 h0
      obtain ⟨z1, e1, _, w1⟩ := DataW.trod_string Try.underlying9 h1
      simp at e0 e1
      exact ⟨⟨z0, e0, w0⟩, z1, e1, w1⟩
    have hlen : ((List.range len).map fun i => (strOf (V0 i), strOf (V1 i))).length = len := by simp
    refine ⟨(List.range len).map fun i => (strOf (V0 i), strOf (V1 i)), ⟨some x, cap, by rw [hlen], ⟨by rw [hlen]; omega, hm, fun h => by cases h⟩, ?_⟩, ?_, .inr ⟨_, _, hx.1, by simp⟩⟩
    · rcases Nat.eq_zero_or_pos len with h0 | h0
      · exact .inl (by rw [h0]; rfl)
      · right
        obtain ⟨b, off, spot⟩ := x
        have h1 := (hcell 0 (by omega)).1
        have hs : spot = none := by simpa [Addr.add] using World.cell?_spot h1
        subst hs
        refine ⟨b, off, rfl, World.block_lt_of_cell? W _ h1, fun j y hy i u hu => ?_⟩
        have hj : j < len := by
          rcases Nat.lt_or_ge j len with h | h
          · exact h
          · rw [List.getElem?_eq_none (by rw [hlen]; exact h)] at hy; cases hy
        simp [hj] at hy
        subst hy
        obtain ⟨g0, g1, _, _⟩ := hcell j (by omega)
        have ea : ∀ k, (Addr.add ⟨b, off, none⟩ k) = ⟨b, off + k, none⟩ := by
          intro k
          unfold Addr.add; split
          · rename_i h; subst h; rfl
          · rfl
        rw [ea] at g0 g1
        obtain ⟨⟨z0, e0, _⟩, z1, e1, _⟩ := key j hj
        match i, hu with
        | 0, hu => simp [lbC, e0, strOf] at hu; subst hu; rw [Nat.add_zero, g0, e0]
        | 1, hu => simp [lbC, e1, strOf] at hu; subst hu; rw [Nat.add_assoc, g1, e1]
        | (n + 2), hu => simp [lbC] at hu
    · intro s hs
      obtain ⟨i, hi, rfl⟩ := List.mem_map.1 hs
      obtain ⟨⟨z0, e0, w0⟩, z1, e1, w1⟩ := key i (List.mem_range.1 hi)
      simp only [e0, e1, strOf]
      exact ⟨w0, w1⟩
set_option maxRecDepth 100000 in
/-- One match that came in, opened. -/
theorem open_match {H : Type} {enc : TypeId × Value → H} {W : World} {base : Nat} {v : Value} {d : DataW H} {p : List MemPlace} (hv : Value.okWide Try.prog W .any base 56 v) (h : DataW.Trod enc Try.prog W 0 (fun _ => true) true 56 v d p) :
    ∃ x : P.Mt, v = .agg #[.int .i64 x.1, .string x.2.1, .string x.2.2] ∧ MtOk1 x := by
  obtain ⟨c0, c1, c2, y0, y1, y2, m, rfl, _, _, hy0, hy1, hy2⟩ := open_agg3 Try.underlying56 (by kernel_rfl) cells56 hv h
  obtain ⟨n, e0, _, wn⟩ := DataW.trod_int Try.underlying3 hy0
  obtain ⟨z1, e1, _, w1⟩ := DataW.trod_string Try.underlying9 hy1
  obtain ⟨z2, e2, _, w2⟩ := DataW.trod_string Try.underlying9 hy2
  simp at e0 e1 e2
  subst e0 e1 e2
  exact ⟨(n, z1, z2), rfl, bounds_i64 wn, w1, w2⟩
set_option maxRecDepth 100000 in
/-- A slice of matches that came in, opened. -/
theorem open_matches {H : Type} {enc : TypeId × Value → H} {W : World} {a : Option Addr} {len cap : Nat} {d : DataW H} {p : List MemPlace}
    (h : ∃ fuel, DataW.trod enc Try.prog W 0 (fun _ => true) true fuel 23 [.slice a len cap] = some (d, p)) :
    ∃ l : List P.Mt, RowM W (.slice a len cap) l ∧ MtOk l ∧ (d = .nil ∧ l.length = 0 ∨ ∃ elems spare, d = .slice elems spare ∧ elems.length = l.length) := by
  obtain ⟨fuel, hf⟩ := h
  rcases Go.Deep.open_slice Try.underlying23 hf with ⟨hcs, hx⟩ | ⟨x, l, c, m, n, D, Pl, hcs, _, hl, hm, hmm, hx, hel⟩
  · simp at hcs hx
    obtain ⟨rfl, rfl, rfl⟩ := hcs
    exact ⟨[], RowX.nil _ _ W, (fun s hs => by cases hs), .inl ⟨hx.1, rfl⟩⟩
  · simp at hcs hx hmm
    obtain ⟨rfl, rfl, rfl⟩ := hcs
    have key : ∀ i, i < len → ∃ y : P.Mt, MtOk1 y ∧ W.cell? (x.add (i * 3)) = some (.int .i64 y.1) ∧ W.cell? (x.add (i * 3 + 1)) = some (.string y.2.1) ∧ W.cell? (x.add (i * 3 + 2)) = some (.string y.2.2) := by
      intro i hi
      obtain ⟨cs', h1, h2⟩ := hel i (by omega)
      rw [cells56] at h1
      obtain ⟨_, hlen, hcell⟩ := World.cells?_some h1
      obtain ⟨xs, k, hk, hxy, _, hxl, hf'⟩ := DataW.trod_struct Try.underlying56 h2
      match xs, hxl, cs', hlen with
      | [y0, y1, y2], _, [v0, v1, v2], _ =>
        have g0 := hf' 0 _ rfl
        have g1 := hf' 1 _ rfl
        have g2 := hf' 2 _ rfl
        simp [cells9, cells3] at g0 g1 g2
        have e0 := hcell 0 (by omega)
        have e1 := hcell 1 (by omega)
        have e2 := hcell 2 (by omega)
        rw [Go.Deep.add_add] at e0 e1 e2
        obtain ⟨z0, f0, _, wn⟩ := DataW.trod_int Try.underlying3 g0
        obtain ⟨z1, f1, _, w1⟩ := DataW.trod_string Try.underlying9 g1
        obtain ⟨z2, f2, _, w2⟩ := DataW.trod_string Try.underlying9 g2
        simp at f0 f1 f2
        subst f0 f1 f2
        exact ⟨(z0, z1, z2), ⟨bounds_i64 wn, w1, w2⟩, by simpa using e0, by simpa using e1, by simpa using e2⟩
    obtain ⟨f, hf2⟩ := Go.Deep.choose_lt key
    have hlen : ((List.range len).map f).length = len := by simp
    refine ⟨(List.range len).map f, ⟨some x, cap, by rw [hlen], ⟨by rw [hlen]; omega, hm, fun h => by cases h⟩, ?_⟩, ?_, .inr ⟨_, _, hx.1, by simp⟩⟩
    · rcases Nat.eq_zero_or_pos len with h0 | h0
      · exact .inl (by rw [h0]; rfl)
      · right
        obtain ⟨b, off, spot⟩ := x
        have h1 := (hf2 0 (by omega)).2.1
        have hs : spot = none := by simpa [Addr.add] using World.cell?_spot h1
        subst hs
        refine ⟨b, off, rfl, World.block_lt_of_cell? W _ h1, fun j y hy i u hu => ?_⟩
        have hj : j < len := by
          rcases Nat.lt_or_ge j len with h | h
          · exact h
          · rw [List.getElem?_eq_none (by rw [hlen]; exact h)] at hy; cases hy
        simp [hj] at hy
        subst hy
        obtain ⟨_, g0, g1, g2⟩ := hf2 j hj
        have ea : ∀ k, (Addr.add ⟨b, off, none⟩ k) = ⟨b, off + k, none⟩ := by
          intro k
          unfold Addr.add; split
          · rename_i h; subst h; rfl
          · rfl
        rw [ea] at g0 g1 g2
        match i, hu with
        | 0, hu => simp [mtC] at hu; subst hu; rw [Nat.add_zero, g0]
        | 1, hu => simp [mtC] at hu; subst hu; rw [Nat.add_assoc, g1]
        | 2, hu => simp [mtC] at hu; subst hu; rw [Nat.add_assoc, g2]
        | (n + 3), hu => simp [mtC] at hu
    · intro s hs
      obtain ⟨i, hi, rfl⟩ := List.mem_map.1 hs
      exact (hf2 i (List.mem_range.1 hi)).1
end Go.Proofs.Ytlghnnmgbdjgoaa
