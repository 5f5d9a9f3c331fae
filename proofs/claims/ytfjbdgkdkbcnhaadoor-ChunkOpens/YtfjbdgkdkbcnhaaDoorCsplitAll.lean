/- Several texts in one. -/
import Derived.Test.YtfjbdgkdkbcnhaaDoorChunkPAll
import Derived.Maps.AppendAt
import Derived.Test.YtfjbdgkdkbcnhaaDoorDpullAll
import Derived.Test.YtfjbdgkdkbcnhaaDoorXtanyAll
import Derived.Test.YtfjbdgkdkbcnhaaDoorTakePAll
import Derived.Test.YtfjbdgkdkbcnhaaDoorShapesAll
import Derived.Test.YtfjbdgkdkbcnhaaDoorXpackAll
/- What split and join answer. -/
namespace Go.Proofs.YtfjbdgkdkbcnhaaDoor
open Go.RowKit
set_option linter.unusedVariables false
theorem infoI : (Tryd.prog.info? 2).map (fun i => (i.zero, i.size, i.bytes)) = some (some (.int .i64 0), 1, 8) := by kernel_rfl
theorem infoU : (Tryd.prog.info? 50).map (fun i => (i.zero, i.size, i.bytes)) = some (some (.int .u64 0), 1, 8) := by kernel_rfl
/-- Two rows in two blocks. -/
def Apart (v1 v2 : Value) : Prop := ∀ k, v1.ownBlock = some k → v2.ownBlock ≠ some k
theorem OwnK.grown {t : TypeId} {k : IntKind} {w w' : World} {b : Nat} {v : Value} {l : List Int} {row : Option Nat} (h : OwnK t k w b v l) (hg : w.grownBy w' row) (hr : ∀ k, v.ownBlock = some k → row ≠ some k) : OwnK t k w' b v l := by
  obtain ⟨h1, h2⟩ := h
  refine ⟨h1, ?_⟩
  rcases h2 with h2 | ⟨g, cap, cur, rfl, hg', hh, r⟩
  · exact .inl h2
  · refine .inr ⟨g, cap, cur, rfl, hg', ?_, r⟩
    rw [hg.block g (Array.getElem?_eq_some_iff.1 hh).1 (fun e => hr g rfl e.symm)]
    exact hh
/-- 'append(b, x)' of one integer to a row of the call's own, and in which block it lies then. -/
theorem wp_app1At {ops : Array Oper} {rest : List Oper} {o : Oper} {a : Act} {Q : Exit → Act → World → Prop} (hgd : o.guard = none) (s x : Operand) (st t : TypeId) (k : IntKind) (by8 : Nat)
    (ho : o.op = .call { callee := .builtin .append, args := #[s, x], argTypes := #[st, st] })
    (hu : Tryd.prog.underlying st = some (.slice t)) (hin : (Tryd.prog.info? t).map (fun i => (i.zero, i.size, i.bytes)) = some (some (.int k 0), 1, by8)) (hby : 1 ≤ by8 ∧ by8 ≤ 8)
    (B base : Nat) (w0 w : World) (v : Value) (acc : List Int) (y : Int) (hown : OwnK t k w base v acc) (hb : Below B w0 w) (hB : B ≤ base) (hs : a.eval s = v)
    (hx : a.eval x = .slice (some ⟨w.heap.size, 0, none⟩) 1 1) (hlen : (acc.length + 1) * by8 ≤ 140737488355328) (hbase : base ≤ w.heap.size)
    (h : ∀ v' w', OwnK t k w' base v' (acc ++ [y]) → Below B w0 w' → w.heap.size < w'.heap.size → w.grownBy w' v.ownBlock → (v'.ownBlock = v.ownBlock ∨ v'.ownBlock = some (w.heap.size + 1)) → wpList Tryd.prog ops Q rest (a.put o.dst v') w') :
    wpList Tryd.prog ops Q (o :: rest) a (w.alloc (.cells #[.int k y] t)) := by
  obtain ⟨i0, hi, hz0, hz1, hz2⟩ := info_parts hin
  refine wpList_append_own_at _ hgd s x st ho base t i0 (.int k 0) 1 by8 hu hi hz0 hz1 hz2 rfl (by omega) v _ _ hs (hown.alloc _) ⟨w.heap.size, 0, none⟩ 1 1 [.int k y] hx rfl ?_ ?_ ?_ ?_ ?_ ?_
  · intro j u hj
    match j, hj with
    | 0, hj => simp at hj; subst hj; simp [Addr.add]
  · intro u hu; simp at hu; subst hu; rfl
  · unfold maxLen
    have : acc.length + 1 ≤ (acc.length + 1) * by8 := Nat.le_mul_of_pos_right _ hby.1
    omega
  · omega
  · simp; omega
  · intro v' w' ho' hg _ hat
    refine h v' w' ?_ ((hb.alloc (by omega) _).grown hg (by simp; omega) ?_) ?_ ((World.grownBy_alloc w _ _).trans hg) (by simpa using hat)
    · have e1 : (acc ++ [y]).length = acc.length + 1 := by simp
      have e2 : (acc ++ [y]).map (Value.int k) = acc.map (Value.int k) ++ [.int k y] := by simp
      show w'.ownsRow base t 1 v' (acc ++ [y]).length ((acc ++ [y]).map (Value.int k))
      rw [e1, e2]; exact ho'
    · intro j hj; have := (hown.lt j hj).1; omega
    · have := hg.size; simp at this; omega
namespace P
/-- A measure as a number modulo 2^64. -/
def mu (x : Int) : Int := x % 18446744073709551616
def tms (l : List (Int × Int)) : List Int := l.map (·.1)
def mss (l : List (Int × Int)) : List Int := l.map fun s => mu s.2
theorem tms_snoc (l : List (Int × Int)) (k : Nat) (hk : k < l.length) : tms (l.take (k + 1)) = tms (l.take k) ++ [(l.getD k (0, 0)).1] := by
  unfold tms; rw [List.take_succ_eq_append_getElem hk, List.map_append]; simp only [List.map_cons, List.map_nil, List.getD_eq_getElem?_getD, List.getElem?_eq_getElem hk, Option.getD_some]
theorem mss_snoc (l : List (Int × Int)) (k : Nat) (hk : k < l.length) : mss (l.take (k + 1)) = mss (l.take k) ++ [mu (l.getD k (0, 0)).2] := by
  unfold mss; rw [List.take_succ_eq_append_getElem hk, List.map_append]; simp only [List.map_cons, List.map_nil, List.getD_eq_getElem?_getD, List.getElem?_eq_getElem hk, Option.getD_some]
end P
/-- How the loop of split stands. -/
def SplitAt (w : World) (l : List (Int × Int)) (i vt vm : Value) (wr : World) : Prop :=
  ∃ k : Nat, k ≤ l.length ∧ i = .int .i64 k ∧ OwnK 2 .i64 wr w.heap.size vt (P.tms (l.take k)) ∧ OwnK 50 .u64 wr w.heap.size vm (P.mss (l.take k)) ∧ Apart vt vm ∧ Below w.heap.size w wr
set_option maxHeartbeats 1000000 in
theorem split_any (v : Value) (l : List (Int × Int)) (w : World) (hr : RowS w v l) (hi : P.I64s l) (hn : l.length ≤ 1000) :
    Calls Tryd.prog 17 #[v] w fun e w' => ∃ vt vm, e = .returned (.tuple #[vt, vm]) ∧ OwnK 2 .i64 w' w.heap.size vt (P.tms l) ∧ OwnK 50 .u64 w' w.heap.size vm (P.mss l) ∧ Below w.heap.size w w' := by
  obtain ⟨a, cap, rfl, ⟨hlc, hmax, hnn⟩, hcase⟩ := hr
  unfold maxLen at hmax
  have HI := hide hi
  clear hi
  go_enter Tryd.func17, Tryd.ntmps17
  go_wp2
  go_loopw [10, 4, 5] (fun i vt vm wr => SplitAt w l i vt vm wr) (fun i _ _ _ => l.length - (intOf i).toNat)
  case atStart => exact ⟨0, by omega, rfl, OwnK.nil _ _ _ _, OwnK.nil _ _ _ _, (fun k hk => by cases hk), Below.refl _ _⟩
  case round =>
    obtain ⟨k, hk, rfl, hot, hom, hap, hb⟩ := hrel
    have hsz := hb.size
    by_cases hlt : k < l.length
    · rcases hcase with h | ⟨p, o, rfl, hp, hc⟩
      · rw [h] at hlt; simp at hlt
      obtain ⟨g0, g1⟩ := hc k hlt
      replace g0 := (hb.cell (p := ⟨p, o + k * 2, none⟩) hp).trans g0
      replace g1 := (hb.cell (p := ⟨p, o + k * 2 + 1, none⟩) hp).trans g1
      have HT := hide (P.tms_snoc l k hlt)
      have HM := hide (P.mss_snoc l k hlt)
      have hlT : (P.tms (l.take k)).length = k := by unfold P.tms; simp; omega
      have hlM : (P.mss (l.take k)).length = k := by unfold P.mss; simp; omega
      have hIk := HI.out.at k
      generalize l.getD k (0, 0) = s at *
      obtain ⟨s0, s1⟩ := s
      simp only at g0 g1 hIk HT HM
      clear hc
      have hpr : p < wr.heap.size := by omega
      have n0 : (0 : Int) ≤ (k : Int) := by omega
      have n1 : (k : Int) < (l.length : Int) := by omega
      generalize P.tms (l.take k) = T at *
      generalize P.mss (l.take k) = M at *
      have hlT' : T.length ≤ 1000 := by omega
      have hlM' : M.length ≤ 1000 := by omega
      clear hlT hlM
      have HP := hide hap
      have ot5 := hot.below ((Below.refl _ _).alloc (Nat.le_refl _) (.cells #[.int .i64 s0, .int .i64 s1] 49)) (Nat.le_refl _)
      have om5 := hom.below ((Below.refl _ _).alloc (Nat.le_refl _) (.cells #[.int .i64 s0, .int .i64 s1] 49)) (Nat.le_refl _)
      have b5 := hb.alloc hsz (.cells #[.int .i64 s0, .int .i64 s1] 49)
      have HTl := hide (fun k hk => (hot.lt k hk).2)
      have HMl := hide (fun k hk => (hom.lt k hk).2)
      have s5 := b5.size
      clear hap hot hom hb
      have d5 : (wr.alloc (.cells #[.int .i64 s0, .int .i64 s1] 49)).cell? ⟨wr.heap.size, 1, none⟩ = some (.int .i64 s1) := by simp
      have z5 : (wr.alloc (.cells #[.int .i64 s0, .int .i64 s1] 49)).heap.size = wr.heap.size + 1 := by simp
      have hmu : IntKind.u64.wrap s1 = P.mu s1 := by rw [IntKind.wrap_u64]; rfl
      go_wp2_with (first
        | (at_builtin; refine wp_app1At rfl (.tmp 19) (.tmp 23) 39 50 .u64 8 rfl Tryd.underlying39 infoU (by decide) w.heap.size w.heap.size w w6 _ M (P.mu s1) om6 b6 (Nat.le_refl _) rfl rfl (by omega) b6.size ?_; intro vm' w7 om7 b7 sz7 hg7 at7)
        | (at_builtin; refine wp_app1At rfl (.tmp 14) (.tmp 17) 38 2 .i64 8 rfl Tryd.underlying38 infoI (by decide) w.heap.size w.heap.size w _ _ T s0 ot5 b5 (Nat.le_refl _) rfl (show Value.slice (some ⟨wr.heap.size + 1, 0, none⟩) 1 1 = _ by rw [z5]) (by omega) s5 ?_; intro vt' w6 ot6 b6 sz6 hg6 at6; have d6 := hg6.cell d5 (fun e => by have := HTl.out _ e.symm; simp at this); have om6 := om5.grown hg6 (fun k h1 h2 => HP.out k h2 h1)))
      rw [z5] at at6
      have hap6 : ∀ k, vt'.ownBlock = some k → u5.ownBlock ≠ some k := by
        intro j hj hj2
        rcases at6 with h | h
        · exact HP.out j (by rw [← h]; exact hj) hj2
        · rw [h] at hj
          have h1 := HMl.out j hj2
          have h2 := Option.some.inj hj
          omega
      go_roundw
      case rel =>
        refine ⟨k + 1, by omega, by go_num, ?_, ?_, ?_, b7⟩
        · rw [HT.out]; exact ot6.grown hg7 (fun j h1 h2 => hap6 j h1 h2)
        · rw [HM.out]; exact om7
        · intro j h1 h2
          rcases at7 with h | h
          · exact hap6 j h1 (by rw [← h]; exact h2)
          · rw [h] at h2
            have h3 := (ot6.lt j h1).2
            have h4 := Option.some.inj h2
            omega
      case measure => simp [intOf]; omega
    · have hd : decide ((k : Int) < (l.length : Int)) = false := by simp; omega
      obtain rfl : k = l.length := by omega
      rw [List.take_length] at hot hom
      go_wp2
      go_ret2
      exact ⟨_, _, rfl, hot, hom, hb⟩

namespace P
/-- Times and measures as samples. -/
def jn (t m : List Int) : List (Int × Int) := List.zipWith (fun a b => (a, wrap64 b)) t m
theorem jn_length (t m : List Int) (h : t.length = m.length) : (jn t m).length = t.length := by unfold jn; simp; omega
theorem jn_snoc (t m : List Int) (h : t.length = m.length) (k : Nat) (hk : k < t.length) : jn (t.take (k + 1)) (m.take (k + 1)) = jn (t.take k) (m.take k) ++ [(t.getD k 0, wrap64 (m.getD k 0))] := by
  unfold jn
  rw [List.take_succ_eq_append_getElem hk, List.take_succ_eq_append_getElem (show k < m.length by omega), List.zipWith_append (by simp; omega)]
  simp [List.getD_eq_getElem?_getD, List.getElem?_eq_getElem hk, List.getElem?_eq_getElem (show k < m.length by omega)]
end P
/-- How the loop of join stands. -/
def JoinAt (w : World) (t m : List Int) (i vl : Value) (wr : World) : Prop :=
  ∃ k : Nat, k ≤ t.length ∧ i = .int .i64 k ∧ OwnS wr w.heap.size vl (P.jn (t.take k) (m.take k)) ∧ Below w.heap.size w wr
set_option maxHeartbeats 1000000 in
theorem join_any (vt vm : Value) (t m : List Int) (w : World) (ht : RowK .i64 w vt t) (hm : RowK .u64 w vm m) (hl : t.length = m.length) (hn : t.length ≤ 1000) :
    Calls Tryd.prog 28 #[vt, vm] w fun e w' => ∃ v, e = .returned v ∧ OwnS w' w.heap.size v (P.jn t m) ∧ Below w.heap.size w w' := by
  obtain ⟨a, cap, rfl, ⟨hlc, hmax, hnn⟩, hcase⟩ := ht
  obtain ⟨a2, cap2, rfl, ⟨hlc2, hmax2, hnn2⟩, hcase2⟩ := hm
  unfold maxLen at hmax hmax2
  have HL := hide hl
  have HS := hide (P.jn_snoc t m hl)
  clear hl
  go_enter Tryd.func28, Tryd.ntmps28
  go_wp2
  go_loopw [10, 5] (fun i vl wr => JoinAt w t m i vl wr) (fun i _ _ => t.length - (intOf i).toNat)
  case atStart => exact ⟨0, by omega, rfl, OwnS.nil _ _, Below.refl _ _⟩
  case round =>
    obtain ⟨k, hk, rfl, hown, hb⟩ := hrel
    have hsz := hb.size
    by_cases hlt : k < t.length
    · have hlt2 : k < m.length := by have := HL.out; omega
      rcases hcase with h | ⟨p, o, rfl, hp, hc⟩
      · rw [h] at hlt; simp at hlt
      rcases hcase2 with h | ⟨p2, o2, rfl, hp2, hc2⟩
      · rw [h] at hlt2; simp at hlt2
      have g0 := (hb.cell (p := ⟨p, o + k, none⟩) hp).trans (hc k hlt)
      have g1 := (hb.cell (p := ⟨p2, o2 + k, none⟩) hp2).trans (hc2 k hlt2)
      have HN := hide (HS.out k hlt)
      have hlJ : (P.jn (t.take k) (m.take k)).length = k := by rw [P.jn_length _ _ (by have := HL.out; simp; omega)]; simp; omega
      generalize t.getD k 0 = x at *
      generalize m.getD k 0 = y at *
      clear hc hc2 HS
      have hpr : p < wr.heap.size := by omega
      have hpr2 : p2 < wr.heap.size := by omega
      have n0 : (0 : Int) ≤ (k : Int) := by omega
      have n1 : (k : Int) < (t.length : Int) := by omega
      have n2 : (k : Int) < (m.length : Int) := by omega
      generalize P.jn (t.take k) (m.take k) = J at *
      have hlJ' : J.length ≤ 1000 := by omega
      clear hlJ
      obtain ⟨z, hz⟩ : ∃ z, wrap64 y = z := ⟨_, rfl⟩
      rw [hz] at HN
      have hz2 : IntKind.i64.wrap y = z := by rw [← hz, IntKind.wrap_i64]; unfold wrap64; omega
      go_wp2_with (at_builtin; go_must (refine wp_oneS rfl _ _ rfl w.heap.size w.heap.size w wr _ J (x, z) hown hb (Nat.le_refl _) rfl rfl (by omega) hsz hsz ?_); intro v' w6 own6 bl6 sz6 _)
      go_roundw
      case rel => exact ⟨k + 1, by omega, by go_num, by rw [HN.out]; exact own6, bl6⟩
      case measure => simp [intOf]; omega
    · have hd : decide ((k : Int) < (t.length : Int)) = false := by simp; omega
      obtain rfl : k = t.length := by omega
      have e : m.take t.length = m := by rw [HL.out, List.take_length]
      rw [List.take_length, e] at hown
      clear e
      go_wp2
      go_ret
      exact ⟨_, rfl, hown, hb⟩
end Go.Proofs.YtfjbdgkdkbcnhaaDoor
/- Plain: the bytes of a chunk, and what may be read off them. -/
namespace Go.Proofs.YtfjbdgkdkbcnhaaDoor
open Go.RowKit
set_option linter.unusedVariables false
namespace P
theorem pack_inj {bs cs : List Bool} (hl : bs.length = cs.length) (h : pack bs = pack cs) : bs = cs := by
  apply List.ext_getElem hl
  intro i h1 h2
  have hj : i / 8 < bytesN bs.length := by unfold bytesN; omega
  have e1 : byteAt bs (i / 8) = byteAt cs (i / 8) := by
    have a1 := packTo_at (bytesN bs.length) bs (i / 8) hj
    have a2 := packTo_at (bytesN cs.length) cs (i / 8) (by rw [← hl]; exact hj)
    have h3 : packTo (bytesN bs.length) bs = packTo (bytesN cs.length) cs := h
    rw [h3, a2] at a1
    exact (Int.ofNat.inj a1).symm
  have e2 := byteAt_bit bs i
  rw [e1, byteAt_bit cs i] at e2
  unfold bit at e2
  simp only [List.getD_eq_getElem?_getD, List.getElem?_eq_getElem h1, List.getElem?_eq_getElem h2, Option.getD_some] at e2
  cases hb : bs[i] <;> cases hc : cs[i] <;> simp_all
/-- Bits with their count ahead. -/
def ptB (bs : List Bool) : List Int := put bs.length ++ pack bs
/-- Bits that stand at the front of bytes: their bytes, their count, and what stands behind them. -/
def tkB (b : List Int) : Option (List Int × Nat × List Int) :=
  if (take b).2.2 = 0 ∧ (take b).1 ≤ 80000 ∧ (((take b).1.toNat + 7) / 8 ≤ (b.drop (take b).2.1.toNat).length) then
    some ((b.drop (take b).2.1.toNat).take (((take b).1.toNat + 7) / 8), (take b).1.toNat, (b.drop (take b).2.1.toNat).drop (((take b).1.toNat + 7) / 8))
  else none
theorem tkB_ptB (bs : List Bool) (rest : List Int) (h : bs.length ≤ 80000) : tkB (ptB bs ++ rest) = some (pack bs, bs.length, rest) := by
  have e : take (ptB bs ++ rest) = ((bs.length : Int), ((put bs.length).length : Int), 0) := by
    unfold ptB; rw [List.append_assoc]; exact take_put _ _ (by omega) (by omega)
  have e2 : (ptB bs ++ rest).drop (put (bs.length : Int)).length = pack bs ++ rest := by
    unfold ptB; rw [List.append_assoc, List.drop_left]
  have e3 : (bs.length + 7) / 8 = (pack bs).length := by rw [pack_len]; rfl
  unfold tkB
  rw [e]
  simp only [Int.toNat_natCast]
  rw [e2, if_pos ⟨trivial, by omega, by rw [e3]; simp⟩, e3, List.take_left, List.drop_left]
theorem tkB_some {b x r : List Int} {n : Nat} (hb : ∀ y ∈ b, 0 ≤ y ∧ y ≤ 255) (h : tkB b = some (x, n, r)) : b = put n ++ (x ++ r) ∧ n ≤ 80000 ∧ x.length = (n + 7) / 8 := by
  unfold tkB at h
  split at h
  · rename_i hc
    obtain ⟨h0, h1, h2⟩ := hc
    obtain ⟨u, k, hk1, hk2, e1, e2, e3, hu0, _, _⟩ := takeL_ok b 0 0 (by omega) hb h0
    have f1 : (take b).1 = u := by unfold take; rw [e1]; simp
    have f2 : (take b).2.1 = k := by unfold take; rw [e2]; simp
    have f3 : put u = b.take k := e3
    rw [f1] at h1 h2 h
    rw [f2] at h2 h
    simp only [Int.toNat_natCast] at h h2
    simp only [Option.some.injEq, Prod.mk.injEq] at h
    obtain ⟨rfl, rfl, rfl⟩ := h
    refine ⟨?_, by omega, by rw [List.length_take]; omega⟩
    rw [Int.toNat_of_nonneg hu0, f3, List.take_append_drop, List.take_append_drop]
  · cases h
/-- The bytes of a chunk. -/
def sealB (l : List (Int × Int)) : List Int := ptB (D.P.packT (tms l)) ++ ptB (X.P.packT (mss l))
/-- Samples that Seal takes, and their bytes. -/
def Sd (b : List Int) (l : List (Int × Int)) : Prop := chk l = 0 ∧ I64s l ∧ b = sealB l
/-- Times whose bits are these bytes. -/
def TB (x : List Int) (n : Nat) (l : List Int) : Prop := l.length ≤ 1000 ∧ D.P.I64 l ∧ x = pack (D.P.packT l) ∧ n = (D.P.packT l).length
/-- Measures whose bits are these bytes. -/
def MB (x : List Int) (n : Nat) (l : List Int) : Prop := l.length ≤ 1000 ∧ X.P.U64 l ∧ x = pack (X.P.packT l) ∧ n = (X.P.packT l).length
theorem tms_i64 {l : List (Int × Int)} (h : I64s l) : D.P.I64 (tms l) := by
  intro x hx
  obtain ⟨s, hs, rfl⟩ := List.mem_map.1 hx
  exact (h s hs).1
theorem mss_u64 (l : List (Int × Int)) : X.P.U64 (mss l) := by
  intro x hx
  obtain ⟨s, hs, rfl⟩ := List.mem_map.1 hx
  unfold mu; omega
theorem packT_le {l : List Int} (h : l.length ≤ 1000) : (D.P.packT l).length ≤ 80000 := by have := D.P.front_le l l.length l.length; unfold D.P.packT; omega
theorem packM_le {l : List Int} (h : l.length ≤ 1000) : (X.P.packT l).length ≤ 80000 := by have := X.P.front_le l l.length l.length; unfold X.P.packT; omega
theorem Sd.parts {b : List Int} {l : List (Int × Int)} (h : Sd b l) : ∃ r, tkB b = some (pack (D.P.packT (tms l)), (D.P.packT (tms l)).length, r) ∧ tkB r = some (pack (X.P.packT (mss l)), (X.P.packT (mss l)).length, []) ∧ TB (pack (D.P.packT (tms l))) (D.P.packT (tms l)).length (tms l) ∧ MB (pack (X.P.packT (mss l))) (X.P.packT (mss l)).length (mss l) := by
  have hc : chk l = 0 := h.1
  have hi : I64s l := h.2.1
  have hb : b = sealB l := h.2.2
  rw [hb]
  have hn := (chk_zero hc).1
  have ht : (tms l).length ≤ 1000 := by unfold tms; simpa using hn
  have hm' : (mss l).length ≤ 1000 := by unfold mss; simpa using hn
  refine ⟨ptB (X.P.packT (mss l)), tkB_ptB _ _ (packT_le ht), ?_, ⟨ht, tms_i64 hi, rfl, rfl⟩, hm', mss_u64 l, rfl, rfl⟩
  have := tkB_ptB (X.P.packT (mss l)) [] (packM_le hm')
  rwa [List.append_nil] at this
theorem jn_self {l : List (Int × Int)} (h : I64s l) : jn (tms l) (mss l) = l := by
  unfold jn tms mss
  induction l with
  | nil => rfl
  | cons s l ih =>
    have h1 := (h s List.mem_cons_self).2
    simp only [List.map_cons, List.zipWith_cons_cons]
    rw [ih fun x hx => h x (List.mem_cons_of_mem _ hx)]
    congr 1
    apply Prod.ext
    · rfl
    · show wrap64 (mu s.2) = s.2
      unfold wrap64 mu
      omega
theorem tms_jn {t m : List Int} (h : t.length = m.length) : tms (jn t m) = t := by
  unfold tms jn
  induction t generalizing m with
  | nil => rfl
  | cons x t ih =>
    cases m with
    | nil => simp at h
    | cons y m => simp at h; simp only [List.zipWith_cons_cons, List.map_cons]; rw [ih h]
theorem mss_jn {t m : List Int} (h : t.length = m.length) (hu : X.P.U64 m) : mss (jn t m) = m := by
  unfold mss jn
  induction t generalizing m with
  | nil => cases m with
    | nil => rfl
    | cons y m => simp at h
  | cons x t ih =>
    cases m with
    | nil => simp at h
    | cons y m =>
      simp at h
      have hy := hu y List.mem_cons_self
      simp only [List.zipWith_cons_cons, List.map_cons]
      rw [ih h fun z hz => hu z (List.mem_cons_of_mem _ hz)]
      congr 1
      show mu (wrap64 y) = y
      unfold mu wrap64
      omega
theorem wrap64_i64 (y : Int) : -9223372036854775808 ≤ wrap64 y ∧ wrap64 y ≤ 9223372036854775807 := by unfold wrap64; omega
theorem jn_i64 {t m : List Int} (ht : D.P.I64 t) : I64s (jn t m) := by
  intro s hs
  unfold jn at hs
  obtain ⟨i, hi, rfl⟩ := List.mem_iff_getElem.1 hs
  simp only [List.length_zipWith] at hi
  simp only [List.getElem_zipWith]
  exact ⟨ht _ (List.getElem_mem _), wrap64_i64 _⟩
/-- What is read off bytes, whole, is what Seal makes. -/
theorem Sd.of {b x y r t m : List Int} {n k : Nat} (hb : ∀ y ∈ b, 0 ≤ y ∧ y ≤ 255) (h1 : tkB b = some (x, n, r)) (h2 : tkB r = some (y, k, [])) (ht : TB x n t) (hm : MB y k m) (hl : t.length = m.length) (hc : chk (jn t m) = 0) : Sd b (jn t m) := by
  obtain ⟨e1, _, _⟩ := tkB_some hb h1
  have hr : ∀ y ∈ r, 0 ≤ y ∧ y ≤ 255 := fun z hz => hb z (by rw [e1]; exact List.mem_append_right _ (List.mem_append_right _ hz))
  obtain ⟨e2, _, _⟩ := tkB_some hr h2
  refine ⟨hc, jn_i64 ht.2.1, ?_⟩
  unfold sealB ptB
  rw [tms_jn hl, mss_jn hl hm.2.1, ← ht.2.2.1, ← ht.2.2.2, ← hm.2.2.1, ← hm.2.2.2, e1, e2]
  simp
end P
end Go.Proofs.YtfjbdgkdkbcnhaaDoor
/- What putBits and Seal answer. -/
namespace Go.Proofs.YtfjbdgkdkbcnhaaDoor
open Go.RowKit
set_option linter.unusedVariables false
/-- 'append(b, x...)' of bytes that can be read to a row of the call's own: what the operation does. -/
theorem op_appB {o : Oper} {a : Act} {K : Act → World → Prop} {Q : Exit → Act → World → Prop} (s x : Operand)
    (ho : o.op = .call { callee := .builtin .append, args := #[s, x], argTypes := #[23, 23] })
    (B base : Nat) (w0 w : World) (v vx : Value) (acc l : List Int) (hown : OwnB w base v acc) (hrow : RowB w vx l) (hb : Below B w0 w) (hB : B ≤ base) (hs : a.eval s = v)
    (hx : a.eval x = vx) (hlen : acc.length + l.length ≤ 140737488355328) (hbase : base ≤ w.heap.size)
    (h : ∀ v' w', OwnB w' base v' (acc ++ l) → Below B w0 w' → w.heap.size ≤ w'.heap.size → w.grownBy w' v.ownBlock → K (a.put o.dst v') w') :
    Oper.wp Tryd.prog o a w K Q := by
  obtain ⟨i0, hi, hz0, hz1, hz2⟩ := info_parts Tryd.info5
  obtain ⟨ao, cap, rfl, ⟨hlc, hcm, hnn⟩, hcase⟩ := hrow
  have go : ∀ ad : Addr, ao = some ad → (∀ j, j < l.length → w.cell? (ad.add j) = some (.int .u8 (l.getD j 0))) → Oper.wp Tryd.prog o a w K Q := by
    intro ad hao hc
    subst hao
    refine wp_append_own _ s x 23 ho base 5 i0 (.int .u8 0) 1 1 Tryd.underlying23 hi hz0 hz1 hz2 rfl (by decide) v _ _ hs hown ad l.length cap (l.map (Value.int .u8)) hx (by simp) ?_ ?_ ?_ ?_ hbase ?_
    · intro j u hj
      have hjl : j < l.length := by
        rcases Nat.lt_or_ge j l.length with h | h
        · exact h
        · rw [List.getElem?_eq_none (by simpa using h)] at hj; cases hj
      rw [hc j hjl]
      simp [List.getElem?_eq_getElem hjl] at hj
      subst hj
      simp [List.getD_eq_getElem?_getD, List.getElem?_eq_getElem hjl]
    · intro u hu; obtain ⟨z, _, rfl⟩ := List.mem_map.1 hu; rfl
    · unfold maxLen; omega
    · omega
    · intro v' w' ho' hg _
      refine h v' w' ?_ (hb.grown hg (by omega) ?_) hg.size hg
      · have e1 : (acc ++ l).length = acc.length + l.length := by simp
        have e2 : (acc ++ l).map (Value.int .u8) = acc.map (Value.int .u8) ++ l.map (Value.int .u8) := by simp
        show w'.ownsRow base 5 1 v' (acc ++ l).length ((acc ++ l).map (Value.int .u8))
        rw [e1, e2]; exact ho'
      · intro k hk; have := (hown.lt k hk).1; omega
  rcases hcase with h0 | ⟨b, off, rfl, hbs, hcell⟩
  · subst h0
    cases ao with
    | none =>
      have hcap := hnn rfl
      subst hcap
      have hrun := run_append_owned_none (P := Tryd.prog) (w := w) base 23 o.type 5 i0 1 Tryd.underlying23 hi v _ _ hown
      have hx' : a.eval x = .slice none 0 0 := hx
      unfold Oper.wp
      simp [execOp, ho, resolve, invoke, builtin, hs, hx', hrun, Result.andThen]
      exact h v w (by rw [List.append_nil]; exact hown) hb (Nat.le_refl _) ⟨rfl, rfl, rfl, Nat.le_refl _, fun _ _ _ => rfl⟩
    | some ad => exact go ad rfl (fun j hj => by simp at hj)
  · refine go _ rfl (fun j hj => ?_)
    have ea : (Addr.add ⟨b, off, none⟩ j) = ⟨b, off + j, none⟩ := by
      unfold Addr.add; split
      · rename_i h; subst h; rfl
      · rfl
    rw [ea]; exact hcell j hj
/-- The same as one step of a region that draws. -/
theorem step_appB {ops : Array Oper} {o : Oper} {a : Act} {K : Act → World → Prop} {Q : Exit → Act → World → Prop} {E : Prop} (hgd : o.guard = none) (s x : Operand)
    (ho : o.op = .call { callee := .builtin .append, args := #[s, x], argTypes := #[23, 23] })
    (B base : Nat) (w0 w : World) (v vx : Value) (acc l : List Int) (hown : OwnB w base v acc) (hrow : RowB w vx l) (hb : Below B w0 w) (hB : B ≤ base) (hs : a.eval s = v)
    (hx : a.eval x = vx) (hlen : acc.length + l.length ≤ 140737488355328) (hbase : base ≤ w.heap.size)
    (h : ∀ v' w', OwnB w' base v' (acc ++ l) → Below B w0 w' → w.heap.size ≤ w'.heap.size → w.grownBy w' v.ownBlock → K (a.put o.dst v') w') :
    if Region.wanted o (yielded ops a.tmps) = true then Oper.wp Tryd.prog o a w K Q else E := by
  have hw : Region.wanted o (yielded ops a.tmps) = true := by simp [Region.wanted, hgd]
  rw [if_pos hw]
  exact op_appB s x ho B base w0 w v vx acc l hown hrow hb hB hs hx hlen hbase h
theorem box2d {w w2 : World} {c0 c1 : Value} {t : TypeId} (hb : Below (w.alloc (.cells #[c0, c1] t)).drew.heap.size (w.alloc (.cells #[c0, c1] t)).drew w2) :
    w2.cell? ⟨w.heap.size, 0, none⟩ = some c0 ∧ w2.cell? ⟨w.heap.size, 1, none⟩ = some c1 ∧ Below w.heap.size w w2 ∧ w.heap.size < w2.heap.size := by
  have h0 := hb.cell (p := ⟨w.heap.size, 0, none⟩) (by show w.heap.size < (w.alloc _).heap.size; simp)
  have h1 := hb.cell (p := ⟨w.heap.size, 1, none⟩) (by show w.heap.size < (w.alloc _).heap.size; simp)
  have hs : (w.alloc (.cells #[c0, c1] t)).heap.size ≤ w2.heap.size := hb.size
  refine ⟨h0.trans (by show (w.alloc _).cell? _ = _; simp), h1.trans (by show (w.alloc _).cell? _ = _; simp), ((Below.refl _ _).alloc (Nat.le_refl _) _).drew.trans (hb.mono (by show w.heap.size ≤ (w.alloc _).heap.size; simp)), ?_⟩
  simp at hs; omega
set_option maxHeartbeats 2000000 in
theorem putBits_any (vB : Value) (bs : List Bool) (w : World) (hr : RowB w vB (P.pack bs)) (hn : bs.length ≤ 80000) :
    Calls Tryd.prog 20 #[.agg #[vB, .int .i64 bs.length]] w fun e w' => ∃ v, e = .returned v ∧ OwnB w' w.heap.size v (P.ptB bs) ∧ Below w.heap.size w w' := by
  have hl := (P.put_len bs.length).2
  have hpl : (P.pack bs).length ≤ 80000 := by rw [P.pack_len]; unfold P.bytesN; omega
  have HP := hide (fun (w : World) => put_any (bs.length : Int) w (by omega) (by omega))
  have HE : Hid (P.put bs.length ++ P.pack bs = P.ptB bs) := rfl
  have HRw := hide (fun (w' : World) (h : Below w.heap.size w w') => hr.below h (Nat.le_refl _))
  obtain ⟨aB, cB, hvB⟩ : ∃ a c, vB = .slice a (P.pack bs).length c := by obtain ⟨a, c, h, _⟩ := hr; exact ⟨a, c, h⟩
  rw [hvB] at HRw ⊢
  clear hr hvB
  generalize P.pack bs = y at *
  generalize P.put bs.length = x at *
  generalize P.ptB bs = z at *
  obtain ⟨n, hn'⟩ : ∃ n, bs.length = n := ⟨_, rfl⟩
  rw [hn'] at HP hn ⊢
  clear hn'
  have hw1 : IntKind.u64.wrap (n : Int) = (n : Int) := by rw [IntKind.wrap_u64]; omega
  go_enter Tryd.func20, Tryd.ntmps20
  go_wp2
  go_region_law (first
    | (refine step_appB rfl (.tmp 6) (.tmp 8) rfl w.heap.size w.heap.size w _ _ _ x y own2 row2 hb2 (Nat.le_refl _) rfl rfl (by omega) hb2.size ?_; intro v' w3 own3 hb3 _ _)
    | (go_simp; go_at_call 42; refine (HP.out _).mono ?_; rintro e w2 ⟨v2, rfl, own2, hb2⟩; obtain ⟨d0, d1, hbw, hsz2⟩ := box2d hb2; replace own2 := OwnB.base own2 (show w.heap.size ≤ (w.alloc (.cells #[.slice aB y.length cB, .int .i64 n] 43)).heap.size by simp); have row2 := HRw.out _ hbw; replace hb2 := hbw))
  all_goals
    go_wp2
    go_ret
    exact ⟨_, rfl, by rw [← HE.out]; exact own3, hb3⟩
theorem seal_bad (v : Value) (l : List (Int × Int)) (w : World) (hr : RowS w v l) (hc : P.chk l ≠ 0) :
    Calls Tryd.prog 7 #[v] w fun e w' => e = .returned (.tuple #[.slice none 0 0, .int .i64 (P.chk l)]) ∧ Below w.heap.size w w' := by
  have HC := hide (check_any v l w hr)
  generalize P.chk l = c at *
  have ht : (c != 0) = true := by simpa using hc
  clear hc
  go_enter Tryd.func7, Tryd.ntmps7
  go_wp2_with (go_at_call 9; go_must (refine HC.out.mono ?_); rintro e w' ⟨rfl, hb⟩)
  go_ret2
  exact ⟨rfl, hb⟩
set_option maxHeartbeats 2000000 in
theorem seal_ok (v : Value) (l : List (Int × Int)) (w : World) (hr : RowS w v l) (hi : P.I64s l) (hc : P.chk l = 0) (hs : D.Shp w) (ht : X.Tab w) :
    Calls Tryd.prog 7 #[v] w fun e w' => ∃ v', e = .returned (.tuple #[v', .int .i64 0]) ∧ OwnB w' w.heap.size v' (P.sealB l) ∧ Below w.heap.size w w' := by
  have hn := (P.chk_zero hc).1
  have hT : (P.tms l).length ≤ 1000 := by unfold P.tms; simpa using hn
  have hM : (P.mss l).length ≤ 1000 := by unfold P.mss; simpa using hn
  have HC := hide (check_any v l w hr)
  rw [hc] at HC
  have HSp := hide (fun (w' : World) (h : Below w.heap.size w w') => split_any v l w' (hr.below h (Nat.le_refl _)) hi hn)
  have HD := hide (fun (v : Value) (w' : World) (hr : RowK .i64 w' v (P.tms l)) (h : Below w.heap.size w w') => D.pack_any v (P.tms l) w' hr (P.tms_i64 hi) hT (hs.next h))
  have HX := hide (fun (v : Value) (w' : World) (hr : RowK .u64 w' v (P.mss l)) (h : Below w.heap.size w w') => X.pack_any v (P.mss l) w' hr (P.mss_u64 l) hM (ht.next h))
  have hlT := P.packT_le hT
  have hlM := P.packM_le hM
  have HPt := hide (fun (v : Value) (w' : World) (hr : RowB w' v (P.pack (D.P.packT (P.tms l)))) => putBits_any v _ w' hr hlT)
  have HPm := hide (fun (v : Value) (w' : World) (hr : RowB w' v (P.pack (X.P.packT (P.mss l)))) => putBits_any v _ w' hr hlM)
  have HE : Hid (P.ptB (D.P.packT (P.tms l)) ++ P.ptB (X.P.packT (P.mss l)) = P.sealB l) := rfl
  have hpT : (P.ptB (D.P.packT (P.tms l))).length ≤ 90000 := by
    unfold P.ptB; rw [List.length_append, P.pack_len]; have := (P.put_len ((D.P.packT (P.tms l)).length : Int)).2; unfold P.bytesN; omega
  have hpM : (P.ptB (X.P.packT (P.mss l))).length ≤ 90000 := by
    unfold P.ptB; rw [List.length_append, P.pack_len]; have := (P.put_len ((X.P.packT (P.mss l)).length : Int)).2; unfold P.bytesN; omega
  clear hc hi hr
  generalize P.sealB l = z at *
  generalize D.P.packT (P.tms l) = bt at *
  generalize X.P.packT (P.mss l) = bm at *
  generalize P.tms l = tl at *
  generalize P.mss l = ml at *
  generalize P.ptB bt = pt at *
  generalize P.ptB bm = pm at *
  generalize P.pack bt = kt at *
  generalize P.pack bm = km at *
  go_enter Tryd.func7, Tryd.ntmps7
  go_wp2_with fail
  refine HC.out.mono ?_
  rintro e w1 ⟨rfl, hb⟩
  go_wp2_with fail
  refine (HSp.out _ hb).mono ?_
  rintro e w2 ⟨vt, vm, rfl, ot, om, hb2⟩
  replace hb := Below.next hb hb2
  clear hb2 HSp HC
  go_wp2_with fail
  refine (HD.out _ _ ot.row hb).mono ?_
  rintro e w3 ⟨vy, rfl, ow3, hb3⟩
  replace om := om.below hb3 (Nat.le_refl _)
  obtain ⟨ay, cy, hvy⟩ := OwnB.shp ow3
  rw [hvy] at ow3 ⊢
  replace hb := Below.next hb hb3
  clear hb3 HD hvy
  go_wp2_with fail
  have hba := below_alloc hb (.cells #[.slice ay kt.length cy, .int .i64 bt.length] 43)
  refine (HX.out _ _ (om.below ((Below.refl _ _).alloc (Nat.le_refl _) (.cells #[.slice ay kt.length cy, .int .i64 bt.length] 43)) (Nat.le_refl _)).row hba).mono ?_
  rintro e w5 ⟨vz, rfl, ow5, hb5⟩
  obtain ⟨az, cz, hvz⟩ := OwnB.shp ow5
  rw [hvz] at ow5 ⊢
  obtain ⟨d0, d1, hb35, hsz5⟩ := box2 hb5
  have ow3' := OwnB.below ow3 hb35 (Nat.le_refl _)
  replace hb := Below.next hb hb35
  clear hvz hba hb5 hb35 HX om ot ow3
  go_wp2
  obtain ⟨W, hW⟩ : ∃ W, w5.alloc (.cells #[.slice az km.length cz, .int .i64 bm.length] 43) = W := ⟨_, rfl⟩
  have hb5W : Below w5.heap.size w5 W := by rw [← hW]; exact (Below.refl _ _).alloc (Nat.le_refl _) _
  have b70 := keep_cell d0 hb5W
  have b71 := keep_cell d1 hb5W
  have b90 : W.cell? ⟨w5.heap.size, 0, none⟩ = some (.slice az km.length cz) := by rw [← hW]; simp
  have b91 : W.cell? ⟨w5.heap.size, 1, none⟩ = some (.int .i64 bm.length) := by rw [← hW]; simp
  have hbW := Below.next hb hb5W
  have row7 : RowB W.drew (.slice ay kt.length cy) kt := (OwnB.below ow3' hb5W (Nat.le_refl _)).row
  have row9 : RowB W.drew (.slice az km.length cz) km := (OwnB.below ow5 hb5W (Nat.le_refl _)).row
  have szW := hbW.size
  rw [hW]
  clear hW hb5W d0 d1 hb ow3' ow5
  go_region_law (first
    | (refine step_appB rfl (.tmp 37) (.tmp 39) rfl w.heap.size w.heap.size w _ _ _ pt pm own7b row8 hb8 (Nat.le_refl _) rfl rfl (by omega) hb8.size ?_; intro v' w9 own9 hb9 _ _)
    | (go_simp; go_at_call 20; refine (HPm.out _ _ row9c).mono ?_; rintro e w8 ⟨v8, rfl, own8, hb8a⟩; have own7b := OwnB.below own7a hb8a (Nat.le_refl _); have row8 := OwnB.row own8; have hb8 := Below.next hb7 hb8a)
    | (go_simp; go_at_call 20; refine (HPt.out _ _ row7).mono ?_; rintro e w7 ⟨v7, rfl, own7, hb7a⟩; have own7a := OwnB.base own7 szW; have row9c := RowK.below row9 hb7a (Nat.le_refl _); have e90 : w7.cell? ⟨w5.heap.size, 0, none⟩ = some (.slice az km.length cz) := keep_cell (w := W.drew) b90 hb7a; have e91 : w7.cell? ⟨w5.heap.size, 1, none⟩ = some (.int .i64 bm.length) := keep_cell (w := W.drew) b91 hb7a; have hb7 : Below w.heap.size w w7 := Below.next (w1 := W.drew) hbW.drew hb7a))
  all_goals
    go_wp2
    go_ret2
    exact ⟨_, rfl, by rw [← HE.out]; exact own9, hb9⟩
end Go.Proofs.YtfjbdgkdkbcnhaaDoor
