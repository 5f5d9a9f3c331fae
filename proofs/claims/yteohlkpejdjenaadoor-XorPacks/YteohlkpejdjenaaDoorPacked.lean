/- What the document's own Packed answers. -/
import Derived.Test.YteohlkpejdjenaaDoorRefBits
import Derived.Deep.RegionLaw
namespace Go.Proofs.YteohlkpejdjenaaDoor
open Go.RowKit
set_option linter.unusedVariables false

/-- 'append(b, x)' of one byte to a row of the call's own, as one step of a region that draws. -/
theorem step_app1 {ops : Array Oper} {o : Oper} {a : Act} {K : Act → World → Prop} {Q : Exit → Act → World → Prop} {E : Prop} (hgd : o.guard = none) (s x : Operand)
    (ho : o.op = .call { callee := .builtin .append, args := #[s, x], argTypes := #[23, 23] })
    (B base : Nat) (w0 w : World) (v : Value) (acc : List Int) (y : Int) (hown : OwnB w base v acc) (hb : Below B w0 w) (hB : B ≤ base) (hs : a.eval s = v)
    (hx : a.eval x = .slice (some ⟨w.heap.size, 0, none⟩) 1 1) (hlen : acc.length + 1 ≤ 140737488355328) (hbase : base ≤ w.heap.size)
    (h : ∀ v' w', OwnB w' base v' (acc ++ [y]) → Below B w0 w' → w.heap.size < w'.heap.size → w.grownBy w' v.ownBlock → K (a.put o.dst v') w') :
    if Region.wanted o (yielded ops a.tmps) = true then Oper.wp Tryd.prog o a (w.alloc (.cells #[.int .u8 y] 5)) K Q else E := by
  have hw : Region.wanted o (yielded ops a.tmps) = true := by simp [Region.wanted, hgd]
  rw [if_pos hw]
  obtain ⟨i0, hi, hz0, hz1, hz2⟩ := info_parts Tryd.info5
  refine wp_append_own _ s x 23 ho base 5 i0 (.int .u8 0) 1 1 Tryd.underlying23 hi hz0 hz1 hz2 rfl (by decide) v _ _ hs (hown.alloc _) ⟨w.heap.size, 0, none⟩ 1 1 [.int .u8 y] hx rfl ?_ ?_ ?_ ?_ ?_ ?_
  · intro j u hj
    match j, hj with
    | 0, hj => simp at hj; subst hj; simp [Addr.add]
  · intro u hu; simp at hu; subst hu; rfl
  · unfold maxLen; omega
  · omega
  · simp; omega
  · intro v' w' ho' hg _
    refine h v' w' ?_ ((hb.alloc (by omega) _).grown hg (by simp; omega) ?_) ?_ ((World.grownBy_alloc w _ _).trans hg)
    · have e1 : (acc ++ [y]).length = acc.length + 1 := by simp
      have e2 : (acc ++ [y]).map (Value.int .u8) = acc.map (Value.int .u8) ++ [.int .u8 y] := by simp
      show w'.ownsRow base 5 1 v' (acc ++ [y]).length ((acc ++ [y]).map (Value.int .u8))
      rw [e1, e2]; exact ho'
    · intro k hk; have := (hown.lt k hk).1; omega
    · have := hg.size; simp at this; omega

theorem step_app1d {ops : Array Oper} {o : Oper} {a : Act} {K : Act → World → Prop} {Q : Exit → Act → World → Prop} {E : Prop} (hgd : o.guard = none) (s x : Operand)
    (ho : o.op = .call { callee := .builtin .append, args := #[s, x], argTypes := #[23, 23] })
    (B base : Nat) (w0 w : World) (v : Value) (acc : List Int) (y : Int) (hown : OwnB w base v acc) (hb : Below B w0 w) (hB : B ≤ base) (hs : a.eval s = v)
    (hx : a.eval x = .slice (some ⟨w.heap.size, 0, none⟩) 1 1) (hlen : acc.length + 1 ≤ 140737488355328) (hbase : base ≤ w.heap.size)
    (h : ∀ v' w', OwnB w' base v' (acc ++ [y]) → Below B w0 w' → w.heap.size < w'.heap.size → w.grownBy w' v.ownBlock → K (a.put o.dst v') w') :
    if Region.wanted o (yielded ops a.tmps) = true then Oper.wp Tryd.prog o a (w.alloc (.cells #[.int .u8 y] 5)).drew K Q else E :=
  step_app1 (ops := ops) hgd s x ho B base w0 w.drew v acc y hown hb.drew hB hs hx hlen hbase fun v' w' a1 a2 a3 a4 => h v' w' a1 a2 a3 ⟨a4.os, a4.tape, a4.output, a4.size, a4.block⟩

theorem own_keep {w w1 : World} {base : Nat} {v : Value} {l : List Int} (hown : OwnB w base v l) (hgr : w.grownBy w1 v.ownBlock) {a : Addr} {x : Value} (h : w.cell? a = some x) (ha : a.block < base) : w1.cell? a = some x ∧ w1.frozen? a = w.frozen? a := by
  have hlt := World.block_lt_of_cell? w a h
  have hne : some a.block ≠ v.ownBlock := by
    intro e
    have := (hown.lt a.block e.symm).1
    omega
  exact ⟨hgr.cell h hne, World.frozen?_of_block (hgr.block a.block hlt hne)⟩
theorem own_shape1 {w : World} {base : Nat} {v : Value} {l : List Int} {y : Int} (h : OwnB w base v (l ++ [y])) (k : Nat) (hk : l.length = k) : ∃ a cap, v = .slice a (k + 1) cap := by
  obtain ⟨a, cap, hv, _⟩ := h.row
  exact ⟨a, cap, by rw [hv, List.length_append, hk]; rfl⟩

def szOf : Value → Nat | .string s => s.size | _ => 0
set_option maxHeartbeats 2000000 in
theorem packed_any (bs : List Bool) (w : World) (hn : bs.length ≤ 1000000000) :
    Calls Tryd.prog 11 #[.string (P.strB bs)] w fun e w' => ∃ vy, e = .returned (.agg #[vy, .int .i64 bs.length]) ∧ OwnB w' w.heap.size vy (P.pack bs) ∧ Below w.heap.size w w' := by
  have hsz := P.strB_size bs
  go_enter Tryd.func11, Tryd.ntmps11
  go_wp2
  clear hsz
  go_loop [0] (fun s => ∃ j : Nat, s = .string (P.strB (bs ++ List.replicate j false)) ∧ bs.length + j ≤ 8 * ((bs.length + 7) / 8)) (fun s => 8 * ((bs.length + 7) / 8) - szOf s)
  case atStart => exact ⟨0, by simp, by omega⟩
  case round =>
    obtain ⟨j, rfl, hj⟩ := hrel
    have hsz : (P.strB (bs ++ List.replicate j false)).size = bs.length + j := by rw [P.strB_size]; simp
    by_cases hlt : 0 < (bs.length + j) % 8
    · have hlt' : (0 : Int) < ((bs.length : Int) + (j : Int)) % 8 := by omega
      have HA : Hid (P.strB (bs ++ List.replicate j false) ++ ⟨#[48]⟩ = P.strB (bs ++ List.replicate (j + 1) false)) := by
        show _ = _
        have : (⟨#[48]⟩ : ByteArray) = P.strB [false] := rfl
        rw [this, P.strB_app, List.append_assoc, ← List.replicate_succ']
      have hs1 : (P.strB (bs ++ List.replicate j false)).size + 1 ≤ 9223372036854775807 := by omega
      go_wp2
      go_round
      case rel => exact ⟨j + 1, by rw [HA.out], by omega⟩
      case measure =>
        have e : (P.strB (bs ++ List.replicate j false) ++ (⟨#[48]⟩ : ByteArray)).size = bs.length + j + 1 := by rw [HA.out, P.strB_size]; simp; omega
        simp only [szOf, e, hsz]
        omega
    · have hT : bs.length + j = 8 * ((bs.length + 7) / 8) := by omega
      obtain ⟨T, hTT⟩ : ∃ T, T = (bs.length + 7) / 8 := ⟨_, rfl⟩
      rw [← hTT] at hT hj
      have HTT := hide hTT
      have hlt' : decide ((0 : Int) < ((bs.length : Int) + (j : Int)) % 8) = false := by simp; omega
      have hext : ∀ k, (P.strB (bs ++ List.replicate j false)).extract (8 * k) (8 * k + 8) = P.strB (((bs ++ List.replicate j false).drop (8 * k)).take 8) := by
        intro k; rw [P.strB_extract]; congr 2; omega
      have hval : ∀ k, k < T → P.val (((bs ++ List.replicate j false).drop (8 * k)).take 8) = P.byteAt bs k := by
        intro k hk; rw [P.val8 _ k (by simp; omega), P.byteAt_pad]
      have hl8 : ∀ k, (((bs ++ List.replicate j false).drop (8 * k)).take 8).length ≤ 64 := by intro k; simp; omega
      have HE := hide hext
      have HV := hide hval
      have H8 := hide hl8
      clear hext hval hl8 hTT
      generalize P.strB (bs ++ List.replicate j false) = S at *
      have hS : S.size = 8 * T := by omega
      have hTn : 8 * T ≤ bs.length + 7 := by have := HTT.out; omega
      go_wp2
      generalize hW : (w.alloc (.cells #[.slice none 0 0, .int .i64 0] 25)).alloc (.cells #[.slice none 0 0, .int .i64 bs.length] 25) = W
      have c0 : W.cell? ⟨w.heap.size + 1, 0, none⟩ = some (.slice none 0 0) := by rw [← hW]; simp
      have c1 : W.cell? ⟨w.heap.size + 1, 1, none⟩ = some (.int .i64 bs.length) := by rw [← hW]; simp
      have f0 : W.frozen? ⟨w.heap.size + 1, 0, none⟩ = false := by rw [← hW]; simp
      have d0 : W.cell? ⟨w.heap.size, 0, none⟩ = some (.slice none 0 0) := by rw [← hW]; simp
      have d1 : W.cell? ⟨w.heap.size, 1, none⟩ = some (.int .i64 0) := by rw [← hW]; simp
      have g0 : W.frozen? ⟨w.heap.size, 0, none⟩ = false := by rw [← hW]; simp
      have g1 : W.frozen? ⟨w.heap.size, 1, none⟩ = false := by rw [← hW]; simp
      have hbW : Below w.heap.size w W := by rw [← hW]; exact ((Below.refl _ _).alloc (Nat.le_refl _) _).alloc (by simp) _
      have hWs : W.heap.size = w.heap.size + 2 := by rw [← hW]; simp
      have hz1 := Nat.le_of_eq hWs
      have hz2 := Nat.le_of_eq hWs.symm
      clear hWs hW hlt hlt' hT hj hsz
      go_loopw [4] (fun i wr => ∃ (k : Nat) (ao : Option Addr) (cap : Nat), k ≤ T ∧ i = .int .i64 ((8 * k : Nat) : Int) ∧ wr.cell? ⟨w.heap.size + 1, 0, none⟩ = some (.slice ao k cap) ∧ wr.frozen? ⟨w.heap.size + 1, 0, none⟩ = false ∧
          wr.cell? ⟨w.heap.size + 1, 1, none⟩ = some (.int .i64 bs.length) ∧ OwnB wr (w.heap.size + 2) (.slice ao k cap) (P.packTo k bs) ∧ Below (w.heap.size + 1) W wr)
        (fun i _ => 8 * T - (intOf i).toNat)
      case atStart => exact ⟨0, none, 0, by omega, rfl, c0, f0, c1, World.ownsRow_nil _ _ _ _, Below.refl _ _⟩
      case round =>
        obtain ⟨k, ao, cap, hk, rfl, x0, z0, x1, hown, hbr⟩ := hrel
        have hsr := hbr.size
        by_cases hlt : k < T
        · have H1 := HV.out k hlt
          have hex := HE.out k
          have hvo := hide (valueOf_any (((bs ++ List.replicate j false).drop (8 * k)).take 8))
          have h8 := H8.out k
          rw [H1] at hvo
          generalize P.strB (((bs ++ List.replicate j false).drop (8 * k)).take 8) = s8 at hex hvo
          have hby := P.byteAt_lt bs k
          have HP := hide (P.packTo_succ k bs)
          generalize P.byteAt bs k = c at hby HP hvo
          have hpl : (P.packTo k bs).length ≤ k := by rw [P.packTo_len]; exact Nat.le_refl _
          have hpk := hide (P.packTo_len k bs)
          have i0 : (0 : Int) ≤ 8 * (k : Int) := by omega
          have i1 : 8 * (k : Int) + 8 ≤ 8 * (T : Int) := by omega
          have i2 : IntKind.i64.wrap (8 * (k : Int) + 8) = 8 * (k : Int) + 8 := by rw [IntKind.wrap_i64]; omega
          have i3 : (0 : Int) ≤ 8 * (k : Int) + 8 := by omega
          have i4 : 8 * (k : Int) ≤ 8 * (k : Int) + 8 := by omega
          have hwc : IntKind.u8.wrap (c : Int) = (c : Int) := by rw [IntKind.wrap_u8]; omega
          have t1 : (8 * (k : Int)).toNat = 8 * k := by omega
          have t2 : (8 * (k : Int) + 8).toNat = 8 * k + 8 := by omega
          have hwr : w.heap.size + 1 < wr.heap.size := by omega
          clear H1
          go_wp2
          go_region_law (first
            | (refine step_app1d rfl (.tmp 21) (.tmp 29) rfl (w.heap.size + 1) (w.heap.size + 2) W wr _ (P.packTo k bs) (c : Int) hown hbr (by omega) rfl rfl (by omega) (by omega) ?_; intro v' w1 hown' hb' hsz' hgr; obtain ⟨a', cap', hv'⟩ := own_shape1 hown' k hpk.out; rw [hv'] at hown' ⊢; clear hv'; have y0 := own_keep hown hgr x0 (by simp); have y1 := own_keep hown hgr x1 (by simp); rw [z0] at y0; obtain ⟨y0, q0⟩ := y0; replace y1 := y1.1)
            | (go_simp; go_at_call 27; refine (hvo.out _ h8).mono ?_; rintro e w' ⟨rfl, rfl⟩))
          all_goals
            go_wp2
            go_roundw
            case rel =>
              refine ⟨k + 1, a', cap', by omega, by go_num, World.cell?_setCell_same _ _ _ y0, (World.frozen?_setCell _ _ _ _).trans q0, (World.cell?_setCell_other _ _ _ _ (by simp)).trans y1, ?_, hb'.setCell (Nat.le_refl _) _⟩
              rw [HP.out]
              exact ownsRow_setCell_below hown' (by simp) _
            case measure => simp [intOf]; omega
        · obtain rfl : k = T := by omega
          have e0 := (hbr.cell (p := ⟨w.heap.size, 0, none⟩) (by simp)).trans d0
          have e1 := (hbr.cell (p := ⟨w.heap.size, 1, none⟩) (by simp)).trans d1
          have h0 := (hbr.frozen (p := ⟨w.heap.size, 0, none⟩) (by simp)).trans g0
          have h1 := (hbr.frozen (p := ⟨w.heap.size, 1, none⟩) (by simp)).trans g1
          have hd : decide (8 * (k : Int) < 8 * (k : Int)) = false := by simp
          go_wp2
          refine bodyPost_ret (v := .agg #[.slice ao k cap, .int .i64 bs.length]) (by simp [results, Tryd.results11, go_sem, e0, e1]) rfl ⟨.slice ao k cap, rfl, ?_, ((hbW.trans (hbr.mono (by omega))).setCell (by simp) _).setCell (by simp) _⟩
          have hp : P.packTo k bs = P.pack bs := by unfold P.pack P.bytesN; rw [HTT.out]
          rw [hp] at hown
          exact OwnB.base (ownsRow_setCell_below (ownsRow_setCell_below hown (by simp) _) (by simp) _) (by omega)
end Go.Proofs.YteohlkpejdjenaaDoor
