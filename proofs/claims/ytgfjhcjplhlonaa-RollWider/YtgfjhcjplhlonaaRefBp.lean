/- Plain: windows that are put in one by one; how windows are put behind a row without room. -/
import Derived.Test.YtgfjhcjplhlonaaRefRoll
namespace Go.Proofs.Ytgfjhcjplhlonaa
open Go.RowKit
set_option linter.unusedVariables false
namespace P
theorem jn_behind {m : List Wn} {s : Wn} (h : ∀ y ∈ m, y.t < s.t) : jn m [s] = m ++ [s] := by
  induction m with
  | nil => rw [jn_nil']; rfl
  | cons y m ih => rw [jn_lt _ _ (h y List.mem_cons_self), ih fun z hz => h z (List.mem_cons_of_mem _ hz)]; rfl
theorem jn_snoc {s : Wn} : ∀ a m : List Wn, (∀ y ∈ m, y.t < s.t) → jn a (m ++ [s]) = jn (jn a m) [s] := by
  refine jn_ind (fun m h => ?_) (fun a h => ?_) (fun x a y m hlt ih h => ?_) (fun x a y m hgt ih h => ?_) (fun x a y m heq ih h => ?_)
  · rw [jn_nil', jn_nil', jn_behind h]
  · rw [jn_nil]; rfl
  · have hy := h y List.mem_cons_self
    have i := ih h
    rw [List.cons_append] at i ⊢
    rw [jn_lt _ _ hlt, jn_lt _ _ hlt, jn_lt _ _ (by omega), i]
  · have hy := h y List.mem_cons_self
    rw [List.cons_append, jn_gt _ _ hgt, jn_gt _ _ hgt, jn_lt _ _ hy, ih fun z hz => h z (List.mem_cons_of_mem _ hz)]
  · have hy := h y List.mem_cons_self
    rw [List.cons_append, jn_eq _ _ heq, jn_eq _ _ heq, jn_lt _ _ (by rw [bo_t]; omega), ih fun z hz => h z (List.mem_cons_of_mem _ hz)]
theorem jn_step {a b : List Wn} (hb : RisW b) {k : Nat} {s : Wn} (hs : b[k]? = some s) : jn a (b.take (k + 1)) = jn (jn a (b.take k)) [s] := by
  rw [List.take_add_one, hs]
  refine jn_snoc _ _ fun y hy => ?_
  obtain ⟨i, hi, e⟩ := List.mem_iff_getElem.1 hy
  simp at hi
  have hk := (List.getElem?_eq_some_iff.1 hs)
  obtain ⟨hk1, hk2⟩ := hk
  have := List.pairwise_iff_getElem.1 hb i k (by omega) hk1 (by omega)
  rw [hk2] at this
  rw [← e, List.getElem_take]; exact this
theorem jn_ins {s : Wn} : ∀ (O : List Wn) (j : Nat), j ≤ O.length → (∀ n y, n < j → O[n]? = some y → y.t < s.t) → (∀ y, O[j]? = some y → s.t < y.t) → jn O [s] = O.take j ++ ([s] ++ O.drop j) := by
  intro O
  induction O with
  | nil => intro j hj _ _; simp at hj; subst hj; rw [jn_nil']; rfl
  | cons x O ih =>
    intro j hj hlow hup
    cases j with
    | zero =>
      have := hup x rfl
      rw [jn_gt _ _ this, jn_nil]; rfl
    | succ j =>
      have h0 := hlow 0 x (by omega) rfl
      rw [jn_lt _ _ h0, ih j (by simpa using hj) (fun n y hn hy => hlow (n + 1) y (by omega) (by simpa using hy)) (fun y hy => hup y (by simpa using hy))]
      rfl
theorem jn_put {s : Wn} : ∀ (O : List Wn) (j : Nat) (x : Wn), O[j]? = some x → (∀ n y, n < j → O[n]? = some y → y.t < s.t) → x.t = s.t → jn O [s] = O.set j (bo x s) := by
  intro O
  induction O with
  | nil => intro j x hx; simp at hx
  | cons y O ih =>
    intro j x hx hlow he
    cases j with
    | zero =>
      simp at hx; subst hx
      rw [jn_eq _ _ he, jn_nil]; rfl
    | succ j =>
      have h0 := hlow 0 y (by omega) rfl
      rw [jn_lt _ _ h0, ih j x (by simpa using hx) (fun n z hn hz => hlow (n + 1) z (by omega) (by simpa using hz)) he]
      rfl
def N1 (l : List Wn) : Prop := ∀ x ∈ l, 1 ≤ x.n ∧ x.n ≤ 1000000000
theorem N1.tail {x : Wn} {l : List Wn} (h : N1 (x :: l)) : N1 l := fun y hy => h y (List.mem_cons_of_mem _ hy)
theorem jn_n : ∀ a b : List Wn, N1 a → N1 b → ∀ z ∈ jn a b, 1 ≤ z.n ∧ z.n ≤ 2000000000 := by
  have one : ∀ l, N1 l → ∀ z ∈ l, 1 ≤ z.n ∧ z.n ≤ 2000000000 := fun l h z hz => by have := h z hz; omega
  refine jn_ind (fun b _ hb => by rw [jn_nil']; exact one b hb) (fun a ha _ => by rw [jn_nil]; exact one a ha) (fun x a y b h ih ha hb => ?_) (fun x a y b h ih ha hb => ?_) (fun x a y b h ih ha hb => ?_)
  · rw [jn_lt _ _ h]; intro z hz
    rcases List.mem_cons.1 hz with rfl | hz
    · have := ha _ List.mem_cons_self; omega
    · exact ih ha.tail hb z hz
  · rw [jn_gt _ _ h]; intro z hz
    rcases List.mem_cons.1 hz with rfl | hz
    · have := hb _ List.mem_cons_self; omega
    · exact ih ha hb.tail z hz
  · rw [jn_eq _ _ h]; intro z hz
    rcases List.mem_cons.1 hz with rfl | hz
    · have h1 := ha _ List.mem_cons_self
      have h2 := hb _ List.mem_cons_self
      simp only [bo, IntKind.wrap_i64]; omega
    · exact ih ha.tail hb.tail z hz
theorem crowd_set {O : List Wn} {j : Nat} {x z : Wn} (hx : O[j]? = some x) (hz : x.n ≤ z.n) : crowd (O.set j z) = (crowd O || decide (1000000000 < z.n)) := by
  rw [Bool.eq_iff_iff, Bool.or_eq_true, decide_eq_true_eq]
  unfold crowd
  rw [List.any_eq_true, List.any_eq_true]
  obtain ⟨hj, hj2⟩ := List.getElem?_eq_some_iff.1 hx
  constructor
  · rintro ⟨y, hy, hn⟩
    rcases List.mem_or_eq_of_mem_set hy with h | rfl
    · exact .inl ⟨y, h, hn⟩
    · exact .inr (by simpa using hn)
  · rintro (⟨y, hy, hn⟩ | hn)
    · obtain ⟨i, hi, e⟩ := List.mem_iff_getElem.1 hy
      simp at hn
      by_cases hij : i = j
      · subst hij
        refine ⟨z, List.mem_set hj z, ?_⟩
        rw [hj2] at e; subst e
        simp; omega
      · refine ⟨y, ?_, by simpa using hn⟩
        refine List.mem_iff_getElem.2 ⟨i, by simpa using hi, ?_⟩
        rw [List.getElem_set_ne (by omega), e]
    · exact ⟨z, List.mem_set hj z, by simpa using hn⟩
theorem crowd_ins {A B : List Wn} {s : Wn} (h : s.n ≤ 1000000000) : crowd (A ++ ([s] ++ B)) = crowd (A ++ B) := by
  unfold crowd
  simp only [List.any_append, List.any_cons, List.any_nil]
  rw [show decide (1000000000 < s.n) = false by simp; omega]
  simp
end P
theorem op_dstW {o : Oper} {a : Act} {K : Act → World → Prop} {Q : Exit → Act → World → Prop} (s x : Operand)
    (ho : o.op = .call { callee := .builtin .append, args := #[s, x], argTypes := #[23, 23] })
    (w : World) (ad : Option Addr) (n : Nat) (vx : Value) (old l : List P.Wn) (hold : RowW w (.slice ad n n) old) (hrow : RowW w vx l) (hl : l ≠ []) (hs : a.eval s = .slice ad n n)
    (hx : a.eval x = vx) (hlen : old.length + l.length ≤ 2513123006523)
    (h : ∀ v' w', OwnW w' w.heap.size v' (old ++ l) → Below w.heap.size w w' → K (a.put o.dst v') w') :
    Oper.wp Try.prog o a w K Q := by
  obtain ⟨ad', cap, hv, ⟨h1, h2, h3⟩, hcase⟩ := id hold
  simp only [Value.slice.injEq] at hv
  obtain ⟨rfl, rfl, rfl⟩ := hv
  cases ad with
  | none =>
    have h0 : old.length = 0 := h3 rfl
    have e : old = [] := List.length_eq_zero_iff.1 h0
    subst e
    exact op_appX wnC_len wnC_one (by decide) (by decide) rfl Try.underlying23 infoW s x ho w.heap.size w.heap.size w w (.slice none 0 0) vx [] l (OwnW.nil _ _) hrow (Below.refl _ _) (Nat.le_refl _) hs hx (by omega) (Nat.le_refl _) fun v' w' a1 a2 _ _ => h v' w' a1 a2
  | some b =>
    obtain ⟨i0, hi, hz0, hz1, hz2⟩ := info_parts infoW
    have cells : ∀ (v : Value) (m : List P.Wn) (ad : Addr) (c : Nat), RowW w v m → v = .slice (some ad) m.length c → ∀ j u, (m.flatMap wnC)[j]? = some u → w.cell? (ad.add j) = some u := by
      intro v m ad c hr hv j u hj
      obtain ⟨a', c', hv', _, hc⟩ := hr
      rw [hv] at hv'
      simp only [Value.slice.injEq] at hv'
      obtain ⟨rfl, _, rfl⟩ := hv'
      rcases hc with h0 | ⟨b', off, he, _, hcell⟩
      · rw [h0] at hj; simp at hj
      · simp only [Option.some.injEq] at he
        subst he
        have ea : (Addr.add ⟨b', off, none⟩ j) = ⟨b', off + j, none⟩ := by
          unfold Addr.add; split
          · rename_i h; subst h; rfl
          · rfl
        obtain ⟨y, hy, hu⟩ := flat_of wnC_len (by decide) m j u hj
        have := hcell (j / 7) y hy (j % 7) u hu
        rw [Nat.add_assoc, Nat.mul_comm, Nat.div_add_mod] at this
        rw [ea]; exact this
    obtain ⟨ax, cx, hvx, ⟨hx1, hx2, hx3⟩, hxc⟩ := id hrow
    have hlp : 0 < l.length := List.length_pos_iff.2 hl
    cases ax with
    | none => have := hx3 rfl; omega
    | some ax =>
      obtain ⟨v', w', hr, ow, hg⟩ := run_append_arg_grows (P := Try.prog) w 23 o.type 34 i0 _ 7 56 Try.underlying23 hi hz0 hz1 hz2 rfl (by decide)
        b old.length old.length (old.flatMap wnC) (flat_len wnC_len old) (cells _ old b old.length hold rfl) ax l.length cx (l.flatMap wnC) (flat_len wnC_len l) (cells _ l ax cx hrow hvx) (by omega) (by unfold maxLen; omega) (by omega)
      unfold Oper.wp execOp
      simp only [ho, resolve, invoke, builtin, Sem.run_bind, Sem.run_pure, Result.andThen_ok, List.map_toArray, List.map_cons, List.map_nil, hs, hx, hvx, hr]
      refine h v' w' ?_ ⟨hg.os, hg.tape, hg.output, hg.size, fun k hk => hg.block k hk (by simp)⟩
      have e1 : (old ++ l).length = old.length + l.length := by simp
      show w'.ownsRow w.heap.size 34 7 v' (old ++ l).length ((old ++ l).flatMap wnC)
      rw [e1, List.flatMap_append]; exact ow
theorem step_dstW {ops : Array Oper} {o : Oper} {a : Act} {K : Act → World → Prop} {Q : Exit → Act → World → Prop} {E : Prop} (hgd : o.guard = none) (s x : Operand)
    (ho : o.op = .call { callee := .builtin .append, args := #[s, x], argTypes := #[23, 23] })
    (w : World) (ad : Option Addr) (n : Nat) (vx : Value) (old l : List P.Wn) (hold : RowW w (.slice ad n n) old) (hrow : RowW w vx l) (hl : l ≠ []) (hs : a.eval s = .slice ad n n)
    (hx : a.eval x = vx) (hlen : old.length + l.length ≤ 2513123006523)
    (h : ∀ v' w', OwnW w' w.heap.size v' (old ++ l) → Below w.heap.size w w' → K (a.put o.dst v') w') :
    if Region.wanted o (yielded ops a.tmps) = true then Oper.wp Try.prog o a w K Q else E := by
  rw [if_pos (by simp [Region.wanted, hgd])]
  exact op_dstW s x ho w ad n vx old l hold hrow hl hs hx hlen h
theorem step_appW {ops : Array Oper} {o : Oper} {a : Act} {K : Act → World → Prop} {Q : Exit → Act → World → Prop} {E : Prop} (hgd : o.guard = none) (s x : Operand)
    (ho : o.op = .call { callee := .builtin .append, args := #[s, x], argTypes := #[23, 23] })
    (B base : Nat) (w0 w : World) (v vx : Value) (acc l : List P.Wn) (hown : OwnW w base v acc) (hrow : RowW w vx l) (hb : Below B w0 w) (hB : B ≤ base) (hs : a.eval s = v)
    (hx : a.eval x = vx) (hlen : acc.length + l.length ≤ 2513123006523) (hbase : base ≤ w.heap.size)
    (h : ∀ v' w', OwnW w' base v' (acc ++ l) → Below B w0 w' → w.heap.size ≤ w'.heap.size → w.grownBy w' v.ownBlock → K (a.put o.dst v') w') :
    if Region.wanted o (yielded ops a.tmps) = true then Oper.wp Try.prog o a w K Q else E := by
  rw [if_pos (by simp [Region.wanted, hgd])]
  exact op_appX wnC_len wnC_one (by decide) (by decide) rfl Try.underlying23 infoW s x ho B base w0 w v vx acc l hown hrow hb hB hs hx (by omega) hbase h
end Go.Proofs.Ytgfjhcjplhlonaa
