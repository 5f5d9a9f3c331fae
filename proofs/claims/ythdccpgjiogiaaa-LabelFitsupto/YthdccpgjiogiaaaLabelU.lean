/- What split, ReadMatch and Read answer. -/
import Derived.Test.YthdccpgjiogiaaaLabelS
namespace Go.Proofs.Ythdccpgjiogiaaa
open Go.RowKit
set_option linter.unusedVariables false
namespace P
def Wfs (m : List Mt) : Prop := ∀ x ∈ m, Wf x
/-- What split answers. -/
def Sp (s : List UInt8) (m : List Mt) (ok : Bool) : Prop := (ok = true ∧ Wfs m ∧ m.length ≤ 10 ∧ s = txt m) ∨ (ok = false ∧ m = [] ∧ ∀ m', Wfs m' → m'.length ≤ 10 → s ≠ txt m')
theorem txt_cons {s : List UInt8} {m : List Mt} (h : s = txt m) : ∃ t, s = 123 :: t := ⟨_, h⟩
/-- How far split has come: acc is read, s is left. -/
def St (s0 : List UInt8) (acc : List Mt) (s : List UInt8) : Prop := Wfs acc ∧ 44 :: s0 = jt acc ++ 44 :: s
theorem St.start (s0 : List UInt8) : St s0 [] s0 := ⟨fun x hx => (by cases hx), rfl⟩
theorem St.front {s0 s : List UInt8} {acc m : List Mt} (h : St s0 acc s) (h0 : s0 ≠ [125]) (hm : Wfs m) (he : 123 :: s0 = txt m) : ∃ x m', m = acc ++ x :: m' ∧ Wf x ∧ Wfs m' ∧ s = mtx x ++ (jt m' ++ [125]) := by
  have hne : m ≠ [] := by
    intro e
    rw [e] at he
    exact h0 (List.cons.inj he).2
  have e1 := (txt_jt hne).1 he
  rw [h.2] at e1
  obtain ⟨m2, rfl, e2⟩ := jt_front h.1 hm e1
  cases m2 with
  | nil => simp [jt] at e2
  | cons x m' =>
    rw [jt_cons] at e2
    simp at e2
    exact ⟨x, m', rfl, hm x (by simp), fun y hy => hm y (by simp [hy]), e2⟩
theorem St.next {s0 s r : List UInt8} {acc : List Mt} {x : Mt} (h : St s0 acc s) (hx : Wf x) (he : s = mtx x ++ 44 :: r) : St s0 (acc ++ [x]) r := by
  refine ⟨fun y hy => ?_, ?_⟩
  · rcases List.mem_append.1 hy with h1 | h1
    · exact h.1 y h1
    · simp at h1; subst h1; exact hx
  · rw [h.2, he, jt_app, jt_one]; simp
theorem Sp_done {s s0 s1 : List UInt8} {acc : List Mt} {x : Mt} (hs : s = 123 :: s0) (h : St s0 acc s1) (hx : Wf x) (he : s1 = mtx x ++ [125]) (hl : acc.length < 10) : Sp s (acc ++ [x]) true := by
  have hw : Wfs (acc ++ [x]) := by
    intro y hy
    rcases List.mem_append.1 hy with h1 | h1
    · exact h.1 y h1
    · simp at h1; subst h1; exact hx
  refine .inl ⟨rfl, hw, by simp; omega, ?_⟩
  rw [hs]
  refine (txt_jt (by simp)).2 ?_
  rw [h.2, he, jt_app, jt_one]; simp
theorem Sp_nomatch {s s0 s1 r : List UInt8} {acc : List Mt} {x : Mt} (hs : s = 123 :: s0) (h0 : s0 ≠ [125]) (h : St s0 acc s1) (ht : Tm s1 x r false) : Sp s [] false := by
  refine .inr ⟨rfl, rfl, fun m hm hl e => ?_⟩
  rw [hs] at e
  obtain ⟨y, m', rfl, hy, _, e2⟩ := h.front h0 hm e
  rcases ht with ⟨ht, _⟩ | ⟨_, ht⟩
  · cases ht
  · exact ht y _ hy e2
theorem Sp_nocomma {s s0 s1 r : List UInt8} {acc : List Mt} {x : Mt} (hs : s = 123 :: s0) (h0 : s0 ≠ [125]) (h : St s0 acc s1) (hx : Wf x) (he : s1 = mtx x ++ r) (h1 : r ≠ [125]) (h2 : ∀ t, r ≠ 44 :: t) : Sp s [] false := by
  refine .inr ⟨rfl, rfl, fun m hm hl e => ?_⟩
  rw [hs] at e
  obtain ⟨y, m', rfl, hy, _, e2⟩ := h.front h0 hm e
  rw [he] at e2
  obtain ⟨_, e3⟩ := mtx_inj hx hy e2
  cases m' with
  | nil => exact h1 e3
  | cons z m' => rw [jt_cons] at e3; exact h2 _ e3
theorem Sp_many {s s0 s1 : List UInt8} {acc : List Mt} (hs : s = 123 :: s0) (h0 : s0 ≠ [125]) (h : St s0 acc s1) (hl : 10 ≤ acc.length) : Sp s [] false := by
  refine .inr ⟨rfl, rfl, fun m hm hl2 e => ?_⟩
  rw [hs] at e
  obtain ⟨y, m', rfl, _⟩ := h.front h0 hm e
  simp at hl2
  omega
theorem Sp_empty {s : List UInt8} (hs : s = [123, 125]) : Sp s [] true := .inl ⟨rfl, fun x hx => (by cases hx), by simp, hs⟩
theorem Sp_nobrace {s : List UInt8} (h : ∀ t, s ≠ 123 :: t) : Sp s [] false := .inr ⟨rfl, rfl, fun m _ _ e => h _ e⟩
end P
def P.lenV : Value → Nat
  | .slice _ n _ => n
  | _ => 0
def SpA (s : ByteArray) (w : World) (e : Ending) (w' : World) : Prop := ∃ (v : Value) (m : List P.Mt) (ok : Bool), e = .returned (.tuple #[v, .bool ok]) ∧ OwnM w' w.heap.size v m ∧ P.Sp (P.dl s) m ok ∧ Below w.heap.size w w'
theorem spA {s : ByteArray} {w w' : World} {e : Ending} (v : Value) (m : List P.Mt) (ok : Bool) (h1 : e = .returned (.tuple #[v, .bool ok])) (h2 : OwnM w' w.heap.size v m) (h3 : P.Sp (P.dl s) m ok) (h4 : Below w.heap.size w w') : SpA s w e w' := ⟨v, m, ok, h1, h2, h3, h4⟩
theorem OwnM.shp {w : World} {base : Nat} {v : Value} {m : List P.Mt} (h : OwnM w base v m) : ∃ a c, v = .slice a m.length c := by
  obtain ⟨a, c, e, _⟩ := OwnM.row h
  exact ⟨a, c, e⟩
theorem dl_one {s : ByteArray} {c : UInt8} : (s.toList == [c]) = decide (P.dl s = [c]) := by
  rw [Lib.toList_data, Bool.eq_iff_iff, beq_iff_eq, decide_eq_true_eq]
set_option maxHeartbeats 2000000 in
theorem split_any (s : ByteArray) (w : World) (hs : s.size ≤ 140737488355328) : Calls Try.prog 30 #[.string s] w fun e w' => SpA s w e w' := by
  have HC := hide (cut_one 123)
  have HK := hide (cut_one 44)
  have HT := hide takeMatch_any
  go_enter Try.func30, Try.ntmps30
  go_wp2_with fail
  refine (HC.out _ _).mono ?_
  rintro e w0 (⟨s0, rfl, hs0, rfl⟩ | ⟨s0, rfl, _, hno, rfl⟩)
  · have HS0 := hide hs0
    have hz0 : s0.size + 1 = s.size := by rw [P.dl_size s, hs0, P.dl_size s0]; rfl
    clear hs0
    have hz0' : s0.size ≤ 140737488355328 := by omega
    clear hz0
    cases hq : (s0.toList == [125]) with
    | true =>
      have HR : Hid (P.Sp (P.dl s) [] true) := P.Sp_empty (by
        rw [dl_one, decide_eq_true_eq] at hq
        rw [HS0.out, hq])
      go_wp2
      go_ret2
      exact spA _ [] true rfl (OwnX.nil _ _ _ _ _) HR.out (Below.refl _ _)
    | false =>
      have HN0 : Hid (P.dl s0 ≠ [125]) := by
        show _ ≠ _
        rw [dl_one, decide_eq_false_iff_not] at hq
        exact hq
      go_wp2
      go_loopw [0, 5] (fun x v wr => ∃ (s' : ByteArray) (acc : List P.Mt), x = .string s' ∧ s'.size ≤ 140737488355328 ∧ OwnM wr w0.heap.size v acc ∧ acc.length ≤ 10 ∧ P.St (P.dl s0) acc (P.dl s') ∧ Below w0.heap.size w0 wr) (fun _ v _ => 10 - P.lenV v)
      case atStart => exact ⟨s0, [], rfl, hz0', OwnX.nil _ _ _ _ _, by simp, P.St.start _, Below.refl _ _⟩
      case round =>
        obtain ⟨s', acc, rfl, hz1, hown, hal, hst, hB⟩ := hrel
        have HST := hide hst
        clear hst
        obtain ⟨va, vc, hv⟩ := OwnM.shp hown
        subst hv
        by_cases hlt : acc.length < 10
        · have hd : decide ((acc.length : Int) < 10) = true := by simp; omega
          go_wp2_with fail
          refine (HT.out _ _ hz1).mono ?_
          rintro e w2 ⟨x, r, ok, rfl, htm, hc2, hrz⟩
          have own2 := hown.below hc2 (Nat.le_refl _)
          have hb2 : Below w0.heap.size w0 w2 := Below.next hB hc2
          clear hown hc2
          cases ok with
          | false =>
            have HR := hide (P.Sp_nomatch HS0.out HN0.out HST.out htm)
            clear htm
            go_wp2
            go_ret2
            exact spA _ [] false rfl (OwnX.nil _ _ _ _ _) HR.out (hb2.alloc hb2.size _)
          | true =>
            obtain ⟨hx, he⟩ : P.Wf x ∧ P.dl s' = P.mtx x ++ P.dl r := by
              rcases htm with ⟨_, a, b⟩ | ⟨a, _⟩
              · exact ⟨a, b⟩
              · cases a
            have HX := hide hx
            have HE := hide he
            clear htm hx he
            have hb3 : Below w0.heap.size w0 (w2.alloc (.cells #[.int .i64 x.1, .string x.2.1, .string x.2.2] 49)) := hb2.alloc hb2.size _
            have own3 : OwnM (w2.alloc (.cells #[.int .i64 x.1, .string x.2.1, .string x.2.2] 49)) w0.heap.size _ acc := own2.below ((Below.refl _ w2).alloc (Nat.le_refl _) _) (Nat.le_refl _)
            clear own2
            obtain ⟨xk, xn, xv⟩ := x
            simp only at hb3 own3
            cases hq2 : (r.toList == [125]) with
            | true =>
              have HR : Hid (P.Sp (P.dl s) (acc ++ [(xk, xn, xv)]) true) := P.Sp_done HS0.out HST.out HX.out (by
                rw [dl_one, decide_eq_true_eq] at hq2
                rw [HE.out, hq2]) hlt
              go_wp2_with (at_builtin; go_must (refine wp_oneM rfl _ _ rfl w0.heap.size w0.heap.size w0 _ _ acc (xk, xn, xv) own3 hb3 (Nat.le_refl _) rfl _ rfl (by simp) (by omega) hb3.size ?_); intro v1 w1 own1 hb1 _ _)
              go_ret2
              exact spA _ _ true rfl own1 HR.out hb1
            | false =>
              have HN2 : Hid (P.dl r ≠ [125]) := by
                show _ ≠ _
                rw [dl_one, decide_eq_false_iff_not] at hq2
                exact hq2
              go_wp2_with (first
                | (go_at_call 44; refine (HK.out _ _).mono ?_; rintro e w9 (⟨r2, rfl, hr2, rfl⟩ | ⟨r2, rfl, _, hno, rfl⟩))
                | (at_builtin; refine wp_oneM rfl _ _ rfl w0.heap.size w0.heap.size w0 _ _ acc (xk, xn, xv) own3 hb3 (Nat.le_refl _) rfl _ rfl (by simp) (by omega) hb3.size ?_; intro v1 w1 own1 hb1 _ _))
              · have hz2 : r2.size + 1 = r.size := by rw [P.dl_size r, hr2, P.dl_size r2]; rfl
                have HR := hide (P.St.next HST.out HX.out (by rw [HE.out, hr2]))
                clear hr2
                obtain ⟨va1, vc1, hv1⟩ := OwnM.shp own1
                subst hv1
                go_roundw
                case rel => exact ⟨r2, acc ++ [(xk, xn, xv)], rfl, by omega, own1, by simp; omega, HR.out, hb1⟩
                case measure => show 10 - (acc ++ [(xk, xn, xv)]).length < 10 - acc.length; simp only [List.length_append, List.length_cons, List.length_nil]; omega
              · have HR := hide (P.Sp_nocomma HS0.out HN0.out HST.out HX.out HE.out HN2.out hno)
                clear hno
                go_ret2
                exact spA _ [] false rfl (OwnX.nil _ _ _ _ _) HR.out hb1
        · have hd : decide ((acc.length : Int) < 10) = false := by simp; omega
          have HR := hide (P.Sp_many HS0.out HN0.out HST.out (by omega))
          go_wp2
          go_ret2
          exact spA _ [] false rfl (OwnX.nil _ _ _ _ _) HR.out hB
  · have HR := hide (P.Sp_nobrace hno)
    clear hno
    go_wp2
    go_ret2
    exact spA _ [] false rfl (OwnX.nil _ _ _ _ _) HR.out (Below.refl _ _)
end Go.Proofs.Ythdccpgjiogiaaa
