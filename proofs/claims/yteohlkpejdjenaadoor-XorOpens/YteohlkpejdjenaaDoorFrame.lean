/- How arguments are opened, and how they stay: laws of my own for the rows' steps. -/
import Derived.Test.YteohlkpejdjenaaDoorKit
import Derived.ProofKit
import Derived.OpenShut
import Derived.ShutString
import Derived.ChangeOld
import Derived.SizedLaws
import Derived.Lib.SmallJoins
import Derived.JoinedCond
import Derived.Deep.CondSized
namespace Go.Proofs.YteohlkpejdjenaaDoor
open Go.ChangeShapes Go.WideShapes Go.ChangeAt Go.RowKit Go.Joins
set_option linter.unusedVariables false

theorem own : ownKnob Tryd.prog.godebug = none := by kernel_rfl
theorem laidOut : laidOutB Tryd.prog = true := by kernel_rfl

/-- Bytes. -/
def Byt (l : List Int) : Prop := ∀ x ∈ l, 0 ≤ x ∧ x ≤ 255
theorem Byt.at {l : List Int} (h : Byt l) (j : Nat) : 0 ≤ l.getD j 0 ∧ l.getD j 0 ≤ 255 := by
  by_cases hj : j < l.length
  · have := h l[j] (List.getElem_mem hj)
    simpa [List.getD_eq_getElem?_getD, List.getElem?_eq_getElem hj] using this
  · simp [List.getD_eq_getElem?_getD, List.getElem?_eq_none (Nat.le_of_not_lt hj)]

/-- A slice of integers that came in, opened. -/
theorem open_row {H : Type} {enc : TypeId × Value → H} {W : World} {t e : TypeId} {k : IntKind} {a : Option Addr} {len cap : Nat} {d : DataW H} {p : List MemPlace} (ht : Tryd.prog.underlying t = some (.slice e)) (he : Tryd.prog.underlying e = some (.int k)) (hc : Tryd.prog.cellsOf e = 1)
    (h : ∃ fuel, DataW.trod enc Tryd.prog W 0 (fun _ => true) true fuel t [.slice a len cap] = some (d, p)) :
    ∃ l : List Int, RowK k W (.slice a len cap) l ∧ (∀ n ∈ l, (Lit.int k n).wf = true) ∧ (d = .nil ∧ l = [] ∨ ∃ elems spare, d = .slice elems spare ∧ elems.length = l.length) := by
  obtain ⟨fuel, hf⟩ := h
  rcases open_ints ht he hc hf with ⟨hcs, hx⟩ | ⟨x, l, c, zs, hcs, _, hl, hm, hz, hx, hcell, hwz⟩
  · simp at hcs hx
    obtain ⟨rfl, rfl, rfl⟩ := hcs
    exact ⟨[], ⟨none, 0, rfl, ⟨by simp, by simp, fun _ => rfl⟩, .inl rfl⟩, by simp, .inl ⟨hx.1, rfl⟩⟩
  · simp at hcs hx hz
    obtain ⟨rfl, rfl, rfl⟩ := hcs
    have hlen : (zs.take len).length = len := by simp; omega
    refine ⟨zs.take len, ⟨some x, cap, by rw [hlen], ⟨by rw [hlen]; omega, hm, fun h => by cases h⟩, ?_⟩, fun n hn => hwz n (List.mem_of_mem_take hn), .inr ⟨_, _, hx.1, by simp [lits]⟩⟩
    rcases Nat.eq_zero_or_pos len with h0 | h0
    · exact .inl (by rw [h0]; rfl)
    · right
      obtain ⟨b, off, spot⟩ := x
      have h1 := hcell 0 (by omega)
      have hs : spot = none := by simpa [Addr.add] using World.cell?_spot h1
      subst hs
      refine ⟨b, off, rfl, World.block_lt_of_cell? W _ h1, fun j hj => ?_⟩
      rw [hlen] at hj
      have h2 := hcell j (by omega)
      have ea : (Addr.add ⟨b, off, none⟩ j) = ⟨b, off + j, none⟩ := by
        unfold Addr.add; split
        · rename_i h; subst h; rfl
        · rfl
      rw [ea] at h2
      rw [h2]
      simp [List.getD_eq_getElem?_getD, hj]

theorem wf_bytes {l : List Int} (h : ∀ n ∈ l, (Lit.int .u8 n).wf = true) : Byt l := fun x hx => bounds_u8 (h x hx)
theorem cells5 : Tryd.prog.cellsOf 5 = 1 := by kernel_rfl
theorem bytes5 : Tryd.prog.bytesOf 5 = 1 := by kernel_rfl

/-- The reach of a slice that stands itself among the arguments. -/
theorem row_reach {H : Type} {ts : List TypeId} {ds : List (DataW H)} (hsz : (DataW.weightsEach Tryd.prog ts ds).all (· ≤ reachBytes) = true) {j : Nat} {d : DataW H} {t e : TypeId} {l : List Int} (ht : ts[j]? = some t) (hd : ds[j]? = some d)
    (hu : Tryd.prog.underlying t = some (.slice e)) (h : d = .nil ∧ l = [] ∨ ∃ elems spare, d = .slice elems spare ∧ elems.length = l.length) : l.length * Tryd.prog.bytesOf e ≤ 140737488351232 := by
  rcases h with ⟨_, rfl⟩ | ⟨el, sp, rfl, hl⟩
  · simp
  · have := sized_slice hsz ht hd hu
    have h2 : l.length * Tryd.prog.bytesOf e ≤ (el.length + sp.length) * Tryd.prog.bytesOf e := Nat.mul_le_mul_right _ (by omega)
    have h3 : reachBytes = 140737488351232 := rfl
    omega

theorem bulk_pos {H : Type} (d : DataW H) : 1 ≤ Rows.uptoBulk d := by
  cases d with
  | lit x => cases x <;> simp [Rows.uptoBulk]
  | _ => simp [Rows.uptoBulk]
theorem bulk_len {H : Type} (l : List (DataW H)) : l.length ≤ Rows.uptoBulkAll l := by
  induction l with
  | nil => simp [Rows.uptoBulkAll]
  | cons d l ih => have := bulk_pos d; simp [Rows.uptoBulkAll]; omega
theorem bulk_mem {H : Type} {ds : List (DataW H)} {d : DataW H} (h : d ∈ ds) : Rows.uptoBulk d ≤ Rows.uptoBulkAll ds := by
  induction ds with
  | nil => cases h
  | cons x l ih =>
    simp only [Rows.uptoBulkAll]
    rcases List.mem_cons.1 h with rfl | h
    · omega
    · have := ih h; omega
theorem bulk_small {H : Type} {ds : List (DataW H)} (h : Rows.uptoSmall H ds = true) : Rows.uptoBulkAll ds ≤ 1048576 := of_decide_eq_true h
/-- How many bytes the second form lets a slice have. -/
theorem bulk_row {H : Type} {ds : List (DataW H)} (hk : Rows.uptoSmall H ds = true) {d : DataW H} {l : List Int} (hd : d ∈ ds) (h : d = .nil ∧ l = [] ∨ ∃ elems spare, d = .slice elems spare ∧ elems.length = l.length) : l.length ≤ 1048576 := by
  rcases h with ⟨_, rfl⟩ | ⟨el, sp, rfl, hl⟩
  · simp
  · have h1 := bulk_mem hd
    have h2 := bulk_small hk
    have h3 := bulk_len el
    simp only [Rows.uptoBulk] at h1
    omega
theorem bulk_bits {H : Type} {ds : List (DataW H)} (hk : Rows.uptoSmall H ds = true) {d : DataW H} {l : List Int} {n : Int} {es sp : List (DataW H)} (hd : d ∈ ds)
    (h : (d = .agg [.nil, .lit (.int .i64 n)] ∧ l = []) ∨ (d = .agg [.slice es sp, .lit (.int .i64 n)] ∧ es.length = l.length)) : l.length ≤ 1048576 := by
  rcases h with ⟨_, rfl⟩ | ⟨rfl, hl⟩
  · simp
  · have h1 := bulk_mem hd
    have h2 := bulk_small hk
    have h3 := bulk_len es
    simp only [Rows.uptoBulk, Rows.uptoBulkAll] at h1
    omega
theorem cells25 : Tryd.prog.cellsOf 25 = 2 := by kernel_rfl
/-- Bits that came in, opened. -/
theorem open_bits {H : Type} {enc : TypeId × Value → H} {W : World} {base : Nat} {v : Value} {d : DataW H} {p : List MemPlace} (hv : Value.okWide Tryd.prog W .any base 25 v) (h : DataW.Trod enc Tryd.prog W 0 (fun _ => true) true 25 v d p)
    {ts : List TypeId} {ds : List (DataW H)} (hsz : (DataW.weightsEach Tryd.prog ts ds).all (· ≤ reachBytes) = true) {j : Nat} (ht : ts[j]? = some 25) (hd : ds[j]? = some d) :
    ∃ (y : Value) (l : List Int) (n : Int), v = .agg #[y, .int .i64 n] ∧ RowB W y l ∧ Byt l ∧ l.length ≤ 140737488351232 ∧ (-9223372036854775808 ≤ n ∧ n ≤ 9223372036854775807) ∧
      ∃ (es : List (DataW H)) (sp : List (DataW H)), (d = .agg [.nil, .lit (.int .i64 n)] ∧ l = []) ∨ (d = .agg [.slice es sp, .lit (.int .i64 n)] ∧ es.length = l.length) := by
  obtain ⟨c0, c1, y0, y1, m, rfl, rfl, rfl, hy0, hy1⟩ := open_agg2 Tryd.underlying25 (by kernel_rfl) cells25 hv h
  obtain ⟨n, e1, hn, wn⟩ := DataW.trod_int Tryd.underlying3 hy1
  simp at e1
  subst e1
  rcases open_ints Tryd.underlying23 Tryd.underlying5 cells5 hy0 with ⟨hcs, hx⟩ | ⟨x, l', c', zs, hcs, _⟩
  · simp at hcs
    subst hcs
    refine ⟨_, [], n, rfl, ⟨none, 0, rfl, ⟨by simp, by simp, fun _ => rfl⟩, .inl rfl⟩, (fun x hx => by cases hx), by simp, bounds_i64 wn, [], [], .inl ⟨?_, rfl⟩⟩
    rw [hx, hn]
  · simp at hcs
    subst hcs
    have h3 : ∃ fuel, DataW.trod enc Tryd.prog W 0 (fun _ => true) true fuel 23 [.slice (some x) l' c'] = some (y0.1, y0.2) := ⟨m, hy0⟩
    obtain ⟨l, row, wf, sh⟩ := open_row Tryd.underlying23 Tryd.underlying5 cells5 h3
    rcases sh with ⟨hd0, hl0⟩ | ⟨es, sp, hd0, hl0⟩
    · refine ⟨_, l, n, rfl, row, wf_bytes wf, by simp [hl0], bounds_i64 wn, [], [], .inl ⟨?_, hl0⟩⟩
      rw [hd0, hn]
    · have hw := List.all_eq_true.1 hsz _ (DataW.weights_mem_each ht hd ((es.length + sp.length) * Tryd.prog.bytesOf 5) (by rw [hd0]; simp [DataW.weights, DataW.weightsEach, Tryd.underlying25, Tryd.underlying23]))
      simp [bytes5] at hw
      have h4 : reachBytes = 140737488351232 := rfl
      refine ⟨_, l, n, rfl, row, wf_bytes wf, by omega, bounds_i64 wn, es, sp, .inr ⟨?_, hl0⟩⟩
      rw [hd0, hn]
end Go.Proofs.YteohlkpejdjenaaDoor
