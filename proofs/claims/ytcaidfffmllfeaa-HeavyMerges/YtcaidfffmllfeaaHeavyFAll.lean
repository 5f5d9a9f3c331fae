/- Several texts in one. -/
import Derived.Test.YtcaidfffmllfeaaKitSFAll
import Derived.Test.YtcaidfffmllfeaaKitHAll
import Derived.Test.YtcaidfffmllfeaaShelfFAll
/- What slices.SortFunc answers of counts, sorted by their keys. -/
namespace Go.Proofs.Ytcaidfffmllfeaa
open Go.RowKit Go.Sort Go.Shelf
set_option linter.unusedVariables false
/-- What the comparison of two counts answers. -/
def cmpC (x y : P.Ct) : Int := Lib.compareBytes x.1.data.toList y.1.data.toList
theorem ltOf_cmpC (x y : P.Ct) : ltOf cmpC x y = P.kl x.1 y.1 := by
  unfold ltOf cmpC P.kl
  rw [P.cmp_less, Lib.toList_data, Lib.toList_data]
theorem swo_cmpC : SWO (ltOf cmpC) where
  irrefl x := by rw [ltOf_cmpC]; exact P.kl_irr _
  trans x y z h1 h2 := by rw [ltOf_cmpC] at *; exact P.kl_trans h1 h2
  ntrans x y z h1 h2 := by
    rw [ltOf_cmpC] at *
    cases h : P.kl x.1 z.1 with
    | false => rfl
    | true =>
      rcases P.kl_total x.1 y.1 with h3 | h3 | h3
      · rw [h3] at h1; cases h1
      · rw [h3, h2] at h; cases h
      · have := P.kl_trans h3 h; rw [h2] at this; cases this
theorem cmpC_any (x y : P.Ct) (W : World) : Calls Try.prog 54 #[.agg (ctC x).toArray, .agg (ctC y).toArray] W fun e w' => e = .returned (.int .i64 (cmpC x y)) ∧ ∃ q os', w' = grow (W.drewN q) os' := by
  have HC := hide (fun W' => Try.compare_any x.1 y.1 W')
  obtain ⟨x0, x1⟩ := x
  obtain ⟨y0, y1⟩ := y
  show Calls Try.prog _ #[.agg #[.string x0, .int .i64 x1], .agg #[.string y0, .int .i64 y1]] W _
  have HE : Hid (cmpC (x0, x1) (y0, y1) = Lib.compareBytes x0.data.toList y0.data.toList) := rfl
  simp only at HC
  generalize Lib.compareBytes x0.data.toList y0.data.toList = r at *
  generalize cmpC (x0, x1) (y0, y1) = r2 at *
  go_enter Try.func54, Try.ntmps54
  go_wp2_with (go_at_call 55; go_must (refine (HC.out _).mono ?_); rintro e w' ⟨rfl, rfl⟩)
  go_ret
  exact ⟨ret_int HE.out.symm, 0, _, by rw [alloc_eq_grow, alloc_eq_grow, grow_grow]; rfl⟩
set_option maxRecDepth 100000 in
theorem sortF_own (w : World) (base : Nat) (v : Value) (l : List P.Ct) (h : OwnC w base v l) (hl : l.length < 4611686018427387904) :
    Calls Try.prog 53 #[v, .func (.func 54) #[] #[]] w fun e w' =>
      e = .returned (.tuple #[]) ∧ ∃ l' : List P.Ct, l'.Perm l ∧ (l'.Pairwise fun x y => P.kl y.1 x.1 = false) ∧ OwnC w' base v l' ∧ w.grownBy w' v.ownBlock := by
  haveI : Inhabited P.Ct := ⟨((ByteArray.empty : ByteArray), (0 : Int))⟩
  rcases h.2 with ⟨rfl, h0⟩ | ⟨g, cap, cur, rfl, hb, hg, hn, hm, hs, ht⟩
  · obtain rfl : l = [] := List.length_eq_zero_iff.1 h0
    refine (Try.sortF_none none 0 _ w).mono ?_
    rintro e w' ⟨rfl, rfl⟩
    exact ⟨rfl, [], List.Perm.refl _, List.Pairwise.nil, h, ⟨rfl, rfl, rfl, Nat.le_refl _, fun _ _ _ => rfl⟩⟩
  · have eg : ∀ args w, (callFunc 54 args).run Try.prog w = .ok (.enter 54 args) w := enters_of Try.func54 (by kernel_rfl) rfl
    have hcon := AnyQ.slices_SortFunc Try.laysSortF 2 Try.isAgg50 Try.sizeOf50 ctC ctC_len ctC_one cmpC swo_cmpC 54 #[] g 0 cap l.toArray w eg (fun _ _ _ _ x y => cmpC_any x y _) (holdsK_block ctC_len (by decide) l hg ht) (Array.getElem?_eq_some_iff.1 hg).1 (by simpa using hl)
    refine (show Calls Try.prog 53 #[.slice (some ⟨g, 0, none⟩) l.length cap, .func (.func 54) #[] #[]] w _ from hcon).mono ?_
    rintro e w' ⟨rfl, d', n, os, hp, hsd, rfl⟩
    have hp2 := permIn_list hp
    have hsz : l.toArray.size = d'.size := hp.1.symm
    have hs2 := sortedIn_list hsd hsz
    refine ⟨rfl, d'.toList, by simpa using hp2, hs2.imp fun {x y} hxy => by rw [← ltOf_cmpC]; exact hxy, ?_, grownBy_sortedK _⟩
    have := own_sortedK (n := n) (os := os) ctC_len (by decide) (l := l) (l' := d'.toList) (by rw [Array.length_toList]; simpa using hsz.symm) hb hg hn hm hs
    simpa using this
end Go.Proofs.Ytcaidfffmllfeaa
