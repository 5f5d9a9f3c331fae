/- What apart does. -/
import Derived.Test.YtlghnnmgbdjgoaaIdxB
import Derived.Maps.OwnSet
import Derived.Sort.KeysCollected
import Derived.Laws.IdiomRangeMap
import Derived.LoopN
namespace Go.Proofs.Ytlghnnmgbdjgoaa
open Go.RowKit Go.Maps Go.ChangeMaps Go.Sort
set_option linter.unusedVariables false
attribute [local go_sem ↓] Go.wp_at_zero Go.wp_at_succ
theorem Idx.lookO {w : World} {B bx bm N cnt : Nat} {F : ByteArray → Option Nat} {G : ByteArray → ByteArray → Value} {ev : List Ev} (h : Idx w B bx bm N cnt F G ev) (s v : ByteArray) (hv : v.size ≤ 281474976710656) :
    (Instr.lookup 75 (.map (F s)) (.string v) false).run Try.prog w = .ok (G s v) w := by
  cases hF : F s with
  | none => rw [h.non s hF v]; exact Maps.look_nil false keyS Try.underlying75 (zeroR _) (keyOfS v (by omega))
  | some b => exact h.lookV hF v hv
theorem Idx.has {w : World} {B bx bm N cnt : Nat} {F : ByteArray → Option Nat} {G : ByteArray → ByteArray → Value} {ev : List Ev} (h : Idx w B bx bm N cnt F G ev) {s : ByteArray} {D : DataW Value}
    (h2 : ∀ u : ByteArray, D.atKey (.string u.data.toList) (.held (.slice none 0 0)) = .held (G s u)) (h3 : ∀ u : ByteArray, Maps.has D (.string u.data.toList) = true → G s u ≠ .slice none 0 0) (u : ByteArray) :
    Maps.has D (.string u.data.toList) = true ↔ nums ev s u ≠ [] := by
  have hr := h.row s u
  constructor
  · intro hh e
    exact h3 u hh (h.emp s u e)
  · intro hne
    cases hh : Maps.has D (.string u.data.toList) with
    | true => rfl
    | false =>
      have e := h2 u
      rw [Maps.atKey_of_not_has hh] at e
      simp only [DataW.held.injEq] at e
      rw [← e] at hr
      rcases hr.2 with ⟨_, h0⟩ | ⟨g, cap, cur, h0, _⟩
      · exact absurd (List.eq_nil_of_length_eq_zero h0) hne
      · cases h0
/-- What was gathered of the keys that came. -/
def gath (ev : List Ev) (x : P.Mt) (fit : Bool) (ss : List (List UInt8)) : List Int := (ss.filter fun u => P.fv ⟨u.toArray⟩ x == fit).flatMap fun u => nums ev x.2.1 ⟨u.toArray⟩
theorem gath_snoc (ev : List Ev) (x : P.Mt) (fit : Bool) (ss : List (List UInt8)) (u : List UInt8) : gath ev x fit (ss ++ [u]) = gath ev x fit ss ++ if (P.fv ⟨u.toArray⟩ x == fit) = true then nums ev x.2.1 ⟨u.toArray⟩ else [] := by
  unfold gath
  rw [List.filter_append, List.flatMap_append]
  congr 1
  cases h : (P.fv ⟨u.toArray⟩ x == fit)
  · simp [List.filter, h]
  · simp [List.filter, h]
theorem gath_len (ev : List Ev) (x : P.Mt) (fit : Bool) (ss : List (List UInt8)) : (gath ev x fit ss).length ≤ ss.length * ev.length := by
  induction ss with
  | nil => simp [gath]
  | cons u ss ih =>
    have e : gath ev x fit (u :: ss) = (if (P.fv ⟨u.toArray⟩ x == fit) = true then nums ev x.2.1 ⟨u.toArray⟩ else []) ++ gath ev x fit ss := by
      unfold gath
      cases h : (P.fv ⟨u.toArray⟩ x == fit) <;> simp [List.filter, h]
    rw [e, List.length_append, List.length_cons, Nat.add_mul, Nat.one_mul]
    have h1 := nums_len ev x.2.1 ⟨u.toArray⟩
    split
    · omega
    · simp; omega
theorem ba_data (u : ByteArray) : (⟨u.data.toList.toArray⟩ : ByteArray) = u := by cases u; simp
theorem gath_apart {ev : List Ev} {x : P.Mt} {fit : Bool} {ss : List (List UInt8)} (h : ∀ u : List UInt8, u ∈ ss ↔ nums ev x.2.1 ⟨u.toArray⟩ ≠ []) : P.ApartL ev x fit (gath ev x fit ss) := by
  intro i
  unfold gath
  simp only [List.mem_flatMap, List.mem_filter, beq_iff_eq]
  constructor
  · rintro ⟨u, ⟨_, h2⟩, h3⟩; exact ⟨_, h3, h2⟩
  · rintro ⟨v, h1, h2⟩
    have e := ba_data v
    refine ⟨v.data.toList, ⟨(h _).2 ?_, by rw [e]; exact h2⟩, by rw [e]; exact h1⟩
    rw [e]
    exact List.ne_nil_of_mem h1
/-- What apart answers. -/
def ApPost (w : World) (ev : List Ev) (x : P.Mt) (fit : Bool) (e : Ending) (w' : World) : Prop :=
  ∃ v l, e = .returned v ∧ RowK .i64 w' v l ∧ l.length ≤ 100010000 ∧ (P.fv ⟨#[]⟩ x = !fit → P.ApartL ev x fit l) ∧ Below w.heap.size w w'
theorem Idx.rowR {w : World} {B bx bm N cnt : Nat} {F : ByteArray → Option Nat} {G : ByteArray → ByteArray → Value} {ev : List Ev} (h : Idx w B bx bm N cnt F G ev) (s v : ByteArray) : RowK .i64 w (G s v) (nums ev s v) := OwnK.row (h.row s v)
theorem ranges_ne {wr : World} {b r N c2 : Nat} {D : DataW Value} {left : Lit → Bool} {base : Nat} {v : Value} {l : List Int} (h : wr.ranges Try.prog 9 RT b r N D left c2) (ho : OwnI wr base v l) : some b ≠ v.ownBlock ∧ some r ≠ v.ownBlock := by
  obtain ⟨es, ck, since, seen, c0, h1, h2, h3, h4, h5, _⟩ := h
  constructor
  · intro e
    obtain ⟨cur, hc⟩ := own_block ho e.symm
    rw [h1] at hc; cases hc
  · intro e
    obtain ⟨cur, hc⟩ := own_block ho e.symm
    rw [h5] at hc; cases hc
theorem goodN_len {x : P.Mt} (h : P.chkM [x] = 0) : x.2.1.size ≤ 20 := by
  unfold P.chkM at h
  rw [if_neg (by simp), P.chkMF] at h
  split at h
  · cases h
  · split at h
    · cases h
    · rename_i h5 h6
      have : P.goodN (P.dl x.2.1) = true := by simpa using h6
      unfold P.goodN at this
      simp at this
      have := this.1.1.2
      rw [P.dl_size]
      simp only [P.dl]
      simp
      omega
/-- Under way: which keys came, what was gathered. -/
def GathAt (w2 : World) (b N : Nat) (D : DataW Value) (ev : List Ev) (x : P.Mt) (fit : Bool) (vl : Value) (wr : World) : Prop :=
  ∃ left c2 ss, wr.ranges Try.prog 9 RT b w2.heap.size N D left c2 ∧ Collected D left ss ∧ OwnI wr w2.heap.size vl (gath ev x fit ss) ∧ Below w2.heap.size w2 wr ∧ ss.length + c2 ≤ N
/-- The key that came: its numbers. -/
theorem key_came {w2 : World} {B bx bm N cnt : Nat} {F : ByteArray → Option Nat} {G : ByteArray → ByteArray → Value} {ev : List Ev} (hi : Idx w2 B bx bm N cnt F G ev) {n : ByteArray} {D : DataW Value}
    (h2 : ∀ u : ByteArray, D.atKey (.string u.data.toList) (.held (.slice none 0 0)) = .held (G n u)) (h3 : ∀ u : ByteArray, Maps.has D (.string u.data.toList) = true → G n u ≠ .slice none 0 0)
    (hval : ∀ s v i, (s, v, i) ∈ ev → v.size ≤ 40) {x : List UInt8} {c : Value} {y : DataW Value × List MemPlace} (hv : RT c = some y) (hat : ∀ zd, D.atKey (.string x) zd = y.1) : c = G n ⟨x.toArray⟩ ∧ (⟨x.toArray⟩ : ByteArray).size ≤ 40 := by
  unfold RT at hv
  simp only [Option.some.injEq] at hv
  subst hv
  have hh := has_true_of_atKey hat
  have e : (⟨x.toArray⟩ : ByteArray).data.toList = x := by simp
  have h4 := h2 ⟨x.toArray⟩
  rw [e, hat] at h4
  simp only [DataW.held.injEq] at h4
  have h5 := (hi.has h2 h3 ⟨x.toArray⟩).1 (by rw [e]; exact hh)
  obtain ⟨i, hi2⟩ := List.exists_mem_of_ne_nil _ h5
  exact ⟨h4, hval _ _ _ (P.mem_nums.1 hi2)⟩
set_option maxRecDepth 100000 in
set_option maxHeartbeats 4000000 in
theorem apart_any (w : World) (B bx bm N cnt : Nat) (F : ByteArray → Option Nat) (G : ByteArray → ByteArray → Value) (ev : List Ev) (h : Idx w B bx bm N cnt F G ev) (x : P.Mt) (fit : Bool) (hx : P.chkM [x] = 0) (hN : N ≤ 10000) (hev : ev.length ≤ 10000)
    (hval : ∀ s v i, (s, v, i) ∈ ev → v.size ≤ 40) (mx : Int) (hm : w.cell? ⟨0, 0, none⟩ = some (.int .i64 mx)) :
    Calls Try.prog 69 #[.pointer (some ⟨bx, 0, none⟩), mtV x, .bool fit] w (ApPost w ev x fit) := by
  have hn2 := goodN_len hx
  have HV := hide (fun (v : ByteArray) (W : World) (hv : v.size ≤ 40) (hb : Below w.heap.size w W) => fitsValue_any v x W hx hv mx (keep_cell hm hb))
  have hw := P.chkM_wf hx x (by simp)
  obtain ⟨k, n, u⟩ := x
  have hk : 1 ≤ k ∧ k ≤ 4 := hw.2.1
  have hu : u.size ≤ 40 := hw.2.2
  have hn3 : n.size ≤ 281474976710656 := by simp at hn2; omega
  have HB : Hid (Below w.heap.size w (w.alloc (.cells #[.int .i64 k, .string n, .string u] 56))) := (Below.refl _ w).alloc (Nat.le_refl _) _
  have HI : Hid (Idx (w.alloc (.cells #[.int .i64 k, .string n, .string u] 56)) B bx bm N cnt F G ev) := h.below HB.out
  have HQ : Hid (MtBlk (w.alloc (.cells #[.int .i64 k, .string n, .string u] 56)) w.heap.size (k, n, u)) := heap_alloc_new w _
  clear h hm hx hw
  go_enter Try.func69, Try.ntmps69
  go_wp2
  generalize hob : w.heap.size = ob at HQ ⊢
  have hob1 := Nat.le_of_eq hob
  have hob2 := Nat.le_of_eq hob.symm
  clear hob
  generalize w.alloc (.cells #[.int .i64 k, .string n, .string u] 56) = w1 at HB HI HQ ⊢
  have cM : ∀ q, (w1.drewN q).cell? ⟨bx, 1, none⟩ = some (.map (some bm)) := fun q => HI.out.cellM
  have c1 : ∀ q, (w1.drewN q).cell? ⟨ob, 1, none⟩ = some (.string n) := fun q => by have := HQ.out; simp [World.cell?, this]
  have hl : ∀ q, (Instr.lookup 62 (.map (some bm)) (.string n) false).run Try.prog (w1.drewN q) = .ok (.map (F n)) (w1.drewN q) := fun q => (HI.out.below (w' := w1.drewN q) (below_dn (Below.refl _ _) q)).lookM n hn3
  generalize hfm : F n = fm at hl
  go_quiet (fail)
  have HI2 : Hid (Idx (w1.drewN nq) B bx bm N cnt F G ev) := HI.out.below (below_dn (Below.refl _ _) nq)
  have HB2 : Hid (Below w.heap.size w (w1.drewN nq)) := below_dn HB.out nq
  have HQ2 : Hid (MtBlk (w1.drewN nq) ob (k, n, u)) := HQ.out
  generalize w1.drewN nq = w2 at HI2 HB2 HQ2 ⊢
  clear HI HB HQ cM c1 hl
  have c0 : w2.cell? ⟨ob, 0, none⟩ = some (.int .i64 k) := by have := HQ2.out; simp [World.cell?, this]
  have c2 : w2.cell? ⟨ob, 2, none⟩ = some (.string u) := by have := HQ2.out; simp [World.cell?, this]
  have hlo : (Instr.lookup 75 (.map fm) (.string u) false).run Try.prog w2 = .ok (G n u) w2 := by rw [← hfm]; exact HI2.out.lookO n u (by omega)
  by_cases hem : u.toList.isEmpty = true
  · clear hlo
    cases fm with
    | none =>
      have HE : Hid (∀ v, nums ev n v = []) := fun v => by
        have h1 := HI2.out.row n v
        rw [HI2.out.non n hfm v] at h1
        rcases h1.2 with ⟨_, h0⟩ | ⟨g, cap, cur, h0, _⟩
        · exact List.eq_nil_of_length_eq_zero h0
        · cases h0
      have hrg := run_range_nilMap (P := Try.prog) w2 75 9 37 Try.underlying75
      have hnx : ∀ ty, (Instr.next (.pointer (some ⟨w2.heap.size, 0, none⟩)) false ty).run Try.prog (w2.alloc (.mapIter none 0 #[] 0)) = _ := fun ty => run_next_nilMap _ ty 0 0 #[]
      clear hfm
      go_wp2
      refine wp_loop_rounds 1 ?_
      rw [rounds_succ]
      go_wp2
      go_ret
      exact ⟨_, [], rfl, rowK_nil _ _, by simp, fun _ i => ⟨fun h => (by cases h), fun ⟨v, h, _⟩ => (by have := HE.out v; simp only at h; rw [this] at h; cases h)⟩, below_low HB2.out ((Below.refl _ w2).alloc (Nat.le_refl _) _) HB2.out.size⟩
    | some b =>
      obtain ⟨⟨D, hown, h2, h3⟩, hlb⟩ := HI2.out.inn n b hfm
      have HK := hide (fun (x : List UInt8) (c : Value) (y : DataW Value × List MemPlace) (hv : RT c = some y) (hat : ∀ zd, D.atKey (.string x) zd = y.1) => key_came HI2.out h2 h3 hval hv hat)
      have HH := hide (fun v => HI2.out.has h2 h3 v)
      have hsd := hown.size_le
      clear h2 h3 hlb hfm
      go_wp2_with (at_range; refine wpList_range_own _ rfl _ 75 rfl 9 37 keyS Try.underlying75 RT b N D rfl hown ?_; intro w0 hrg0 hg0 hs0)
      have HB0 : Hid (Below w2.heap.size w2 w0) := (Below.refl _ w2).grown hg0 (Nat.le_refl _) (by intro j hj; cases hj)
      go_frame
      go_loopw [8] (fun vl wr => GathAt w2 b N D ev (k, n, u) fit vl wr) (fun _ wr => wr.rangeLeft b w2.heap.size)
      case atStart => exact ⟨_, _, [], hrg0, Collected.start D, OwnK.nil _ _ _ _, HB0.out, by simpa using hsd⟩
      case round =>
        obtain ⟨left, c2', ss, hrg, hC, hacc, hbr, hle⟩ := hrel
        obtain ⟨aa, ca, rfl⟩ := OwnK.shape hacc
        have HC := hide hC
        have HAC := hide hacc
        have HBR := hide (below_low HB2.out hbr HB2.out.size)
        clear hC hacc
        go_wp2_with (at_next; refine wpList_next_ranges _ rfl _ rfl 9 keyS RT encStr id (fun key kl hk => by obtain ⟨x, hx, _⟩ := Maps.keyOf_str Try.underlying9 hk; exact ⟨x, hx⟩) (fun v _ _ => ⟨v, rfl⟩) b w2.heap.size N _ _ _ rfl hrg ?_ ?_)
        · intro hc0 hl0
          have HG : Hid (P.ApartL ev (k, n, u) fit (gath ev (k, n, u) fit ss)) := gath_apart fun v => by
            have e : (⟨v.toArray⟩ : ByteArray).data.toList = v := by simp
            rw [HC.out.2 v, ← HH.out ⟨v.toArray⟩, e]
            exact ⟨fun h => h.1, fun h => ⟨h, hl0 _⟩⟩
          have HLn := hide (gath_len ev (k, n, u) fit ss)
          have HM : Hid (ss.length * ev.length ≤ 10000 * 10000) := Nat.mul_le_mul (by omega) hev
          go_wp2
          go_ret
          exact ⟨_, _, rfl, OwnK.row HAC.out, by have := HLn.out; have := HM.out; omega, fun _ => HG.out, HBR.out⟩
        · intro x c kl yd yp w3 c3 hkey hlk hv hat hrg2 hlt hg2 hs2 hen
          obtain ⟨x', ex, rfl, _⟩ := Maps.keyOf_str Try.underlying9 hkey
          obtain rfl : x = x' := encStr_inj ex
          obtain ⟨hcg, hx40⟩ := HK.out x c _ hv hat
          have HCS := hide (HC.out.step hlk hat)
          have HN1 := hide (ranges_ne hrg HAC.out)
          have HB3 : Hid (Below w2.heap.size w2 w3) := hbr.grown hg2 hbr.size (by intro j hj; simp at hj; omega)
          have HAC3 : Hid (OwnI w3 w2.heap.size (.slice aa (gath ev (k, n, u) fit ss).length ca) (gath ev (k, n, u) fit ss)) := OwnK.grown HAC.out hg2 (fun j hj e => HN1.out.2 (by rw [hj, ← e]))
          have HBW := hide (below_low HB2.out HB3.out HB2.out.size)
          have HBQ := hide HBW.out.size
          have HRQ : Hid (MtBlk w3 ob (k, n, u)) := (HB3.out.block ob (lt_of_block HQ2.out)).trans HQ2.out
          have d0 : w3.cell? ⟨ob, 0, none⟩ = some (.int .i64 k) := by have := HRQ.out; simp [World.cell?, this]
          have d1 : w3.cell? ⟨ob, 1, none⟩ = some (.string n) := by have := HRQ.out; simp [World.cell?, this]
          have d2 : w3.cell? ⟨ob, 2, none⟩ = some (.string u) := by have := HRQ.out; simp [World.cell?, this]
          have HR3 := hide ((HI2.out.below HB3.out).rowR n ⟨x.toArray⟩)
          have HSN := hide (gath_snoc ev (k, n, u) fit ss x)
          have HNL := hide (nums_len ev n ⟨x.toArray⟩)
          have HLn := hide (gath_len ev (k, n, u) fit ss)
          have HM : Hid (ss.length * ev.length ≤ 10000 * 10000) := Nat.mul_le_mul (by omega) hev
          have hen' : (Instr.entry (.pointer (some ⟨w2.heap.size, 0, none⟩))).run Try.prog w3 = .ok (.tuple #[.string ⟨x.toArray⟩, c]) w3 := hen
          rw [show encStr x = .string ⟨x.toArray⟩ from rfl]
          clear hen hs2 hat hv hkey ex hlk
          subst hcg
          generalize hxb : (⟨x.toArray⟩ : ByteArray) = xb at *
          have HXV := hide (HV.out xb w3 hx40 HBW.out)
          generalize P.fv xb (k, n, u) = A at HXV HSN
          cases hA : (A == fit) with
          | true =>
            rw [hA, if_pos rfl] at HSN
            go_wp2_with (first
              | (go_at_call 68; refine HXV.out.mono ?_; rintro e w4 ⟨rfl, hb4⟩)
              | (at_builtin; refine wp_appRowI rfl _ _ rfl w2.heap.size w2.heap.size w2 w4 _ _ (gath ev (k, n, u) fit ss) (nums ev n xb) (OwnK.below HAC3.out hb4 (Nat.le_refl _)) (HR3.out.below hb4 (Nat.le_refl _)) (below_low HB3.out hb4 HB3.out.size) (Nat.le_refl _) rfl rfl (by have := HNL.out; have := HLn.out; have := HM.out; omega) (Nat.le_trans HB3.out.size hb4.size) ?_; intro v' w5 ho5 hb5 hs5 hg5))
            go_roundw
            case rel =>
              have hn5 := ranges_ne (hrg2.kept (grown_below hb4 none) (by simp) (by simp)) (OwnK.below HAC3.out hb4 (Nat.le_refl _))
              exact ⟨_, c3, ss ++ [x], (hrg2.kept (grown_below hb4 none) (by simp) (by simp)).kept hg5 hn5.1 hn5.2, HCS.out, by rw [HSN.out]; exact ho5, hb5, by simp; omega⟩
            case measure =>
              have hn5 := ranges_ne (hrg2.kept (grown_below hb4 none) (by simp) (by simp)) (OwnK.below HAC3.out hb4 (Nat.le_refl _))
              rw [((hrg2.kept (grown_below hb4 none) (by simp) (by simp)).kept hg5 hn5.1 hn5.2).left_eq, hrg.left_eq]; exact hlt
          | false =>
            rw [hA, if_neg (by decide), List.append_nil] at HSN
            go_wp2_with (go_at_call 68; refine HXV.out.mono ?_; rintro e w4 ⟨rfl, hb4⟩)
            go_roundw
            case rel => exact ⟨_, c3, ss ++ [x], hrg2.kept (grown_below hb4 none) (by simp) (by simp), HCS.out, by rw [HSN.out]; exact OwnK.below HAC3.out hb4 (Nat.le_refl _), below_low HB3.out hb4 HB3.out.size, by simp; omega⟩
            case measure => rw [(hrg2.kept (grown_below hb4 none) (by simp) (by simp)).left_eq, hrg.left_eq]; exact hlt
  · have HNE : Hid (u.toList ≠ []) := fun e => hem (List.isEmpty_iff.2 e)
    have hem2 : u.toList.isEmpty = false := by simpa using hem
    clear hem
    by_cases hdir : k = 1 ∨ k = 2
    · have HA := hide (fun he => P.apart_direct (ev := ev) (x := (k, n, u)) (fit := fit) HNE.out hdir he)
      have HL := hide (nums_len ev n u)
      have HRW := hide (HI2.out.rowR n u)
      generalize G n u = g at hlo HRW
      clear hfm
      by_cases hk1 : k = 1
      · have hb1 : (k == 1) = true := by simpa using hk1
        clear hk1 hdir
        go_wp2
        go_ret
        exact ⟨_, _, rfl, HRW.out, by have := HL.out; omega, HA.out, HB2.out⟩
      · have hb1 : (k == 1) = false := by simpa using hk1
        have hb2 : (k == 2) = true := by rcases hdir with h | h; exact absurd h hk1; simpa using h
        clear hk1 hdir
        go_wp2
        go_ret
        exact ⟨_, _, rfl, HRW.out, by have := HL.out; omega, HA.out, HB2.out⟩
    · have hb1 : (k == 1) = false := by rw [beq_eq_false_iff_ne]; exact fun e => hdir (.inl e)
      have hb2 : (k == 2) = false := by rw [beq_eq_false_iff_ne]; exact fun e => hdir (.inr e)
      clear hdir hlo
      cases fm with
      | none =>
        have HE : Hid (∀ v, nums ev n v = []) := fun v => by
          have h1 := HI2.out.row n v
          rw [HI2.out.non n hfm v] at h1
          rcases h1.2 with ⟨_, h0⟩ | ⟨g, cap, cur, h0, _⟩
          · exact List.eq_nil_of_length_eq_zero h0
          · cases h0
        have hrg := run_range_nilMap (P := Try.prog) w2 75 9 37 Try.underlying75
        have hnx : ∀ ty, (Instr.next (.pointer (some ⟨w2.heap.size, 0, none⟩)) false ty).run Try.prog (w2.alloc (.mapIter none 0 #[] 0)) = _ := fun ty => run_next_nilMap _ ty 0 0 #[]
        clear hfm
        go_wp2
        refine wp_loop_rounds 1 ?_
        rw [rounds_succ]
        go_wp2
        go_ret
        exact ⟨_, [], rfl, rowK_nil _ _, by simp, fun _ i => ⟨fun h => (by cases h), fun ⟨v, h, _⟩ => (by have := HE.out v; simp only at h; rw [this] at h; cases h)⟩, below_low HB2.out ((Below.refl _ w2).alloc (Nat.le_refl _) _) HB2.out.size⟩
      | some b =>
        obtain ⟨⟨D, hown, h2, h3⟩, hlb⟩ := HI2.out.inn n b hfm
        have HK := hide (fun (x : List UInt8) (c : Value) (y : DataW Value × List MemPlace) (hv : RT c = some y) (hat : ∀ zd, D.atKey (.string x) zd = y.1) => key_came HI2.out h2 h3 hval hv hat)
        have HH := hide (fun v => HI2.out.has h2 h3 v)
        have hsd := hown.size_le
        clear h2 h3 hlb hfm
        go_wp2_with (at_range; refine wpList_range_own _ rfl _ 75 rfl 9 37 keyS Try.underlying75 RT b N D rfl hown ?_; intro w0 hrg0 hg0 hs0)
        have HB0 : Hid (Below w2.heap.size w2 w0) := (Below.refl _ w2).grown hg0 (Nat.le_refl _) (by intro j hj; cases hj)
        go_frame
        go_loopw [8] (fun vl wr => GathAt w2 b N D ev (k, n, u) fit vl wr) (fun _ wr => wr.rangeLeft b w2.heap.size)
        case atStart => exact ⟨_, _, [], hrg0, Collected.start D, OwnK.nil _ _ _ _, HB0.out, by simpa using hsd⟩
        case round =>
          obtain ⟨left, c2', ss, hrg, hC, hacc, hbr, hle⟩ := hrel
          obtain ⟨aa, ca, rfl⟩ := OwnK.shape hacc
          have HC := hide hC
          have HAC := hide hacc
          have HBR := hide (below_low HB2.out hbr HB2.out.size)
          clear hC hacc
          go_wp2_with (at_next; refine wpList_next_ranges _ rfl _ rfl 9 keyS RT encStr id (fun key kl hk => by obtain ⟨x, hx, _⟩ := Maps.keyOf_str Try.underlying9 hk; exact ⟨x, hx⟩) (fun v _ _ => ⟨v, rfl⟩) b w2.heap.size N _ _ _ rfl hrg ?_ ?_)
          · intro hc0 hl0
            have HG : Hid (P.ApartL ev (k, n, u) fit (gath ev (k, n, u) fit ss)) := gath_apart fun v => by
              have e : (⟨v.toArray⟩ : ByteArray).data.toList = v := by simp
              rw [HC.out.2 v, ← HH.out ⟨v.toArray⟩, e]
              exact ⟨fun h => h.1, fun h => ⟨h, hl0 _⟩⟩
            have HLn := hide (gath_len ev (k, n, u) fit ss)
            have HM : Hid (ss.length * ev.length ≤ 10000 * 10000) := Nat.mul_le_mul (by omega) hev
            go_wp2
            go_ret
            exact ⟨_, _, rfl, OwnK.row HAC.out, by have := HLn.out; have := HM.out; omega, fun _ => HG.out, HBR.out⟩
          · intro x c kl yd yp w3 c3 hkey hlk hv hat hrg2 hlt hg2 hs2 hen
            obtain ⟨x', ex, rfl, _⟩ := Maps.keyOf_str Try.underlying9 hkey
            obtain rfl : x = x' := encStr_inj ex
            obtain ⟨hcg, hx40⟩ := HK.out x c _ hv hat
            have HCS := hide (HC.out.step hlk hat)
            have HN1 := hide (ranges_ne hrg HAC.out)
            have HB3 : Hid (Below w2.heap.size w2 w3) := hbr.grown hg2 hbr.size (by intro j hj; simp at hj; omega)
            have HAC3 : Hid (OwnI w3 w2.heap.size (.slice aa (gath ev (k, n, u) fit ss).length ca) (gath ev (k, n, u) fit ss)) := OwnK.grown HAC.out hg2 (fun j hj e => HN1.out.2 (by rw [hj, ← e]))
            have HBW := hide (below_low HB2.out HB3.out HB2.out.size)
            have HBQ := hide HBW.out.size
            have HRQ : Hid (MtBlk w3 ob (k, n, u)) := (HB3.out.block ob (lt_of_block HQ2.out)).trans HQ2.out
            have d0 : w3.cell? ⟨ob, 0, none⟩ = some (.int .i64 k) := by have := HRQ.out; simp [World.cell?, this]
            have d1 : w3.cell? ⟨ob, 1, none⟩ = some (.string n) := by have := HRQ.out; simp [World.cell?, this]
            have d2 : w3.cell? ⟨ob, 2, none⟩ = some (.string u) := by have := HRQ.out; simp [World.cell?, this]
            have HR3 := hide ((HI2.out.below HB3.out).rowR n ⟨x.toArray⟩)
            have HSN := hide (gath_snoc ev (k, n, u) fit ss x)
            have HNL := hide (nums_len ev n ⟨x.toArray⟩)
            have HLn := hide (gath_len ev (k, n, u) fit ss)
            have HM : Hid (ss.length * ev.length ≤ 10000 * 10000) := Nat.mul_le_mul (by omega) hev
            have hen' : (Instr.entry (.pointer (some ⟨w2.heap.size, 0, none⟩))).run Try.prog w3 = .ok (.tuple #[.string ⟨x.toArray⟩, c]) w3 := hen
            rw [show encStr x = .string ⟨x.toArray⟩ from rfl]
            clear hen hs2 hat hv hkey ex hlk
            subst hcg
            generalize hxb : (⟨x.toArray⟩ : ByteArray) = xb at *
            have HXV := hide (HV.out xb w3 hx40 HBW.out)
            generalize P.fv xb (k, n, u) = A at HXV HSN
            cases hA : (A == fit) with
            | true =>
              rw [hA, if_pos rfl] at HSN
              go_wp2_with (first
                | (go_at_call 68; refine HXV.out.mono ?_; rintro e w4 ⟨rfl, hb4⟩)
                | (at_builtin; refine wp_appRowI rfl _ _ rfl w2.heap.size w2.heap.size w2 w4 _ _ (gath ev (k, n, u) fit ss) (nums ev n xb) (OwnK.below HAC3.out hb4 (Nat.le_refl _)) (HR3.out.below hb4 (Nat.le_refl _)) (below_low HB3.out hb4 HB3.out.size) (Nat.le_refl _) rfl rfl (by have := HNL.out; have := HLn.out; have := HM.out; omega) (Nat.le_trans HB3.out.size hb4.size) ?_; intro v' w5 ho5 hb5 hs5 hg5))
              go_roundw
              case rel =>
                have hn5 := ranges_ne (hrg2.kept (grown_below hb4 none) (by simp) (by simp)) (OwnK.below HAC3.out hb4 (Nat.le_refl _))
                exact ⟨_, c3, ss ++ [x], (hrg2.kept (grown_below hb4 none) (by simp) (by simp)).kept hg5 hn5.1 hn5.2, HCS.out, by rw [HSN.out]; exact ho5, hb5, by simp; omega⟩
              case measure =>
                have hn5 := ranges_ne (hrg2.kept (grown_below hb4 none) (by simp) (by simp)) (OwnK.below HAC3.out hb4 (Nat.le_refl _))
                rw [((hrg2.kept (grown_below hb4 none) (by simp) (by simp)).kept hg5 hn5.1 hn5.2).left_eq, hrg.left_eq]; exact hlt
            | false =>
              rw [hA, if_neg (by decide), List.append_nil] at HSN
              go_wp2_with (go_at_call 68; refine HXV.out.mono ?_; rintro e w4 ⟨rfl, hb4⟩)
              go_roundw
              case rel => exact ⟨_, c3, ss ++ [x], hrg2.kept (grown_below hb4 none) (by simp) (by simp), HCS.out, by rw [HSN.out]; exact OwnK.below HAC3.out hb4 (Nat.le_refl _), below_low HB3.out hb4 HB3.out.size, by simp; omega⟩
              case measure => rw [(hrg2.kept (grown_below hb4 none) (by simp) (by simp)).left_eq, hrg.left_eq]; exact hlt
end Go.Proofs.Ytlghnnmgbdjgoaa
