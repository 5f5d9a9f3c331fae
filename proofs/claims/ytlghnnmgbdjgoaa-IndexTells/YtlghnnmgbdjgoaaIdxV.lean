/- What Values does. -/
import Derived.Test.YtlghnnmgbdjgoaaIdxD
import Derived.Test.YtlghnnmgbdjgoaaIter
namespace Go.Proofs.Ytlghnnmgbdjgoaa
open Go.RowKit Go.Maps Go.ChangeMaps Go.Sort
set_option linter.unusedVariables false
/-- Texts that the call itself made. -/
abbrev OwnS (w : World) (base : Nat) (v : Value) (ss : List (List UInt8)) : Prop := w.ownsRow base 9 1 v ss.length (ss.map encStr)
theorem setCell_same {w : World} {g k : Nat} {u : Value} (h : w.cell? ⟨g, k, none⟩ = some u) : w.setCell ⟨g, k, none⟩ u = w := by
  have hh : (w.setCell ⟨g, k, none⟩ u).heap = w.heap := by
    apply Array.ext_getElem?
    intro i
    by_cases hi : i = g
    · subst hi
      cases hb : w.heap[i]? with
      | none => simp [World.cell?, hb] at h
      | some o =>
        cases o with
        | cells c e f =>
          simp [World.cell?, hb] at h
          unfold World.setCell
          simp only [Array.getElem?_modify, if_true, hb, Option.map_some, Option.some.injEq, Obj.cells.injEq, and_true]
          apply Array.ext_getElem?
          intro j
          rw [if_neg (by simp), Array.getElem?_setIfInBounds]
          split
          · rename_i hj
            subst hj
            split
            · exact h.symm
            · rename_i hk
              rw [Array.getElem?_eq_none (by omega)] at h
              cases h
          · rfl
        | _ => simp [World.cell?, hb] at h
    · exact heap_setCell_other w ⟨g, k, none⟩ i u hi
  unfold World.setCell at hh ⊢
  simp only at hh
  rw [hh]
theorem OwnS.below {w w' : World} {base B : Nat} {v : Value} {ss : List (List UInt8)} (h : OwnS w base v ss) (hb : Below B w w') (hB : w.heap.size ≤ B) : OwnS w' base v ss := by
  obtain ⟨h1, h2⟩ := h
  refine ⟨h1, ?_⟩
  rcases h2 with h2 | ⟨g, cap, cur, rfl, hg, hh, r⟩
  · exact .inl h2
  · exact .inr ⟨g, cap, cur, rfl, hg, by rw [hb.block g (Nat.lt_of_lt_of_le (Array.getElem?_eq_some_iff.1 hh).1 hB)]; exact hh, r⟩
theorem OwnS.base {w : World} {b b' : Nat} {v : Value} {ss : List (List UInt8)} (h : OwnS w b v ss) (hb : b' ≤ b) : OwnS w b' v ss := by
  obtain ⟨h1, h2⟩ := h
  refine ⟨h1, ?_⟩
  rcases h2 with h2 | ⟨g, cap, cur, rfl, hg, r⟩
  · exact .inl h2
  · exact .inr ⟨g, cap, cur, rfl, Nat.le_trans hb hg, r⟩
/-- Where the texts lie. -/
theorem OwnS.place {w : World} {base : Nat} {v : Value} {ss : List (List UInt8)} (h : OwnS w base v ss) : ∃ a cap, v = .slice a ss.length cap ∧ ss.length ≤ cap ∧ cap ≤ maxLen ∧ ∀ k u, ss[k]? = some u → ∃ g, a = some ⟨g, 0, none⟩ ∧ g < w.heap.size ∧ w.cell? ⟨g, k, none⟩ = some (.string ⟨u.toArray⟩) ∧ w.frozen? ⟨g, k, none⟩ = false := by
  rcases h.2 with ⟨rfl, h0⟩ | ⟨g, cap, cur, rfl, hb, hg, hn, hm, hs, ht⟩
  · have : ss = [] := List.length_eq_zero_iff.1 h0
    subst this
    exact ⟨none, 0, rfl, by simp, by simp, fun k u hu => by simp at hu⟩
  · refine ⟨_, cap, rfl, hn, hm, fun k u hu => ⟨g, rfl, (Array.getElem?_eq_some_iff.1 hg).1, ?_, ?_⟩⟩
    · have hk : k < ss.length := (List.getElem?_eq_some_iff.1 hu).1
      have e : cur[k]? = some (encStr u) := by
        have h3 : (cur.toList.take (ss.length * 1))[k]? = (ss.map encStr)[k]? := by rw [ht]
        rw [List.getElem?_take, if_pos (by omega), List.getElem?_map, hu] at h3
        rw [← Array.getElem?_toList, h3]; rfl
      simp [World.cell?, hg, e, encStr]
    · simp [World.frozen?, hg]
theorem keys_facts {w : World} {b N : Nat} {D : DataW Value} (hown : w.ownsMap Try.prog 9 RT b N D) : (strKeys D).Nodup ∧ ∀ u, u ∈ strKeys D ↔ Maps.has D (.string u) = true := by
  obtain ⟨es, rfl, hp, _⟩ := hown.entries keyS
  obtain ⟨es', he, hk⟩ := hown.keysOf
  have hes : es' = es := by cases he; rfl
  subst hes
  have hk2 : ∀ p ∈ es', ∃ x, p.1 = .string x := fun p hp => by
    obtain ⟨key, hkey⟩ := hk p hp
    obtain ⟨x, _, hx, _⟩ := Maps.keyOf_str Try.underlying9 hkey
    exact ⟨x, hx⟩
  constructor
  · show (es'.map fun p => Go.strOf p.1).Nodup
    refine List.pairwise_map.2 (hp.imp_of_mem fun {p q} hp' hq' hne e => hne ?_)
    obtain ⟨a, ha⟩ := hk2 p hp'
    obtain ⟨b, hb⟩ := hk2 q hq'
    rw [ha, hb] at e ⊢
    exact congrArg _ e
  · intro x
    rw [has_eq, List.any_eq_true]
    show x ∈ es'.map (fun p => Go.strOf p.1) ↔ _
    rw [List.mem_map]
    constructor
    · rintro ⟨p, hp', rfl⟩
      obtain ⟨a, ha⟩ := hk2 p hp'
      exact ⟨p, hp', by rw [ha]; simp [Lit.sameKey, Go.strOf]⟩
    · rintro ⟨p, hp', hs⟩
      obtain ⟨a, ha⟩ := hk2 p hp'
      rw [ha] at hs
      exact ⟨p, hp', by rw [ha]; simpa [Lit.sameKey, Go.strOf] using hs⟩
/-- The values of a name: each once. -/
def Vals (ev : List Ev) (s : ByteArray) (ss : List (List UInt8)) : Prop := ss.Nodup ∧ ∀ u, u ∈ ss ↔ nums ev s ⟨u.toArray⟩ ≠ []
abbrev srtS (ss : List (List UInt8)) : List (List UInt8) := ss.mergeSort fun x y => decide (x ≤ y)
theorem srtS_len (ss : List (List UInt8)) : (srtS ss).length = ss.length := List.length_mergeSort ss
theorem Vals.short {ev : List Ev} {s : ByteArray} {ss : List (List UInt8)} (h : Vals ev s ss) (hv : ∀ s v i, (s, v, i) ∈ ev → v.size ≤ 40) : ∀ u ∈ ss, (⟨u.toArray⟩ : ByteArray).size ≤ 40 := by
  intro u hu
  obtain ⟨i, hi⟩ := List.exists_mem_of_ne_nil _ ((h.2 u).1 hu)
  exact hv _ _ _ (P.mem_nums.1 hi)
/-- The sorted keys of the values of a name. -/
theorem sortedKeys_any (w : World) (B bx bm N cnt : Nat) (F : ByteArray → Option Nat) (G : ByteArray → ByteArray → Value) (ev : List Ev) (h : Idx w B bx bm N cnt F G ev) (hN : N ≤ 10000) (s : ByteArray) :
    Calls Try.prog 37 #[.func (.func 66) #[] #[.pointer (some ⟨w.heap.size, 0, none⟩)]] (w.alloc (.cells #[.map (F s)] 75)) fun e w' =>
      ∃ v ss, e = .returned v ∧ Vals ev s ss ∧ OwnS w' w.heap.size v (srtS ss) ∧ Below w.heap.size w w' := by
  have ba : Below w.heap.size w (w.alloc (.cells #[.map (F s)] 75)) := (Below.refl _ w).alloc (Nat.le_refl _) _
  cases hF : F s with
  | none =>
    rw [hF] at ba
    refine (callsIn_wide.1 (Try.slices_Sorted_keys_nil_37_38 w)).mono ?_
    rintro e w' ⟨v, ss, rfl, rfl, hrow, _, hb⟩
    refine ⟨v, [], rfl, ⟨List.nodup_nil, fun u => ?_⟩, ?_, Below.next ba hb⟩
    · have h1 := h.row s ⟨u.toArray⟩
      rw [h.non s hF ⟨u.toArray⟩] at h1
      rcases h1.2 with ⟨_, h0⟩ | ⟨g, cap, cur, h0, _⟩
      · simp [List.eq_nil_of_length_eq_zero h0]
      · cases h0
    · have h2 : OwnS w' (w.alloc (.cells #[.map none] 75)).heap.size v (srtS []) := by
        show w'.ownsRow _ _ _ _ (srtS []).length _
        rw [srtS_len]; exact hrow
      exact h2.base (by simp)
  | some b =>
    rw [hF] at ba
    obtain ⟨⟨D, hown, h2, h3⟩, hlb⟩ := h.inn s b hF
    have hsz := hown.size_le
    obtain ⟨k1, k2⟩ := keys_facts hown
    refine (callsIn_wide.1 (Try.slices_Sorted_keys_37_38 b N D RT w hown (by unfold maxLen; omega) (by omega))).mono ?_
    rintro e w' ⟨v, ss, rfl, hp, hrow, _, hb⟩
    refine ⟨v, ss, rfl, ⟨hp.nodup_iff.2 k1, fun u => ?_⟩, ?_, Below.next ba hb⟩
    · rw [hp.mem_iff, k2 u, ← h.has h2 h3 ⟨u.toArray⟩]
    · have h2 : OwnS w' (w.alloc (.cells #[.map (some b)] 75)).heap.size v (srtS ss) := by
        show w'.ownsRow _ _ _ _ (srtS ss).length _
        rw [srtS_len]; exact hrow
      exact h2.base (by simp)
def VlPost (w : World) (ev : List Ev) (s : ByteArray) (e : Ending) (w' : World) : Prop := ∃ v ss, e = .returned v ∧ Vals ev s ss ∧ OwnS w' w.heap.size v (srtS ss) ∧ Below w.heap.size w w'
set_option maxRecDepth 100000 in
set_option maxHeartbeats 2000000 in
theorem values_any (w : World) (bx : Nat) (L : List (List P.Lb)) (h : Ix w bx L) (s : ByteArray) (hs : s.size ≤ 281474976710656) :
    Calls Try.prog 14 #[.pointer (some ⟨bx, 0, none⟩), .string s] w (VlPost w (P.evTo L L.length) s) := by
  have HV := hide h.val
  obtain ⟨B, bm, N, F, G, hi, hN⟩ := h.idx
  have cM := hi.cellM
  have hl := hi.lookM s hs
  have HK := hide (callsIn_wide.1 (Try.maps_Keys_38 (F s) w))
  have HS := hide (sortedKeys_any w B bx bm N _ F G _ hi hN s)
  have HC := hide (fun (u : ByteArray) (W : World) (hu : u.size ≤ 40) => sclone u W (by omega))
  generalize P.evTo L L.length = ev at HS HV ⊢
  generalize F s = fm at hl HK HS
  clear h hi
  go_enter Try.func14, Try.ntmps14
  go_wp2_with fail
  refine HK.out.mono ?_
  rintro e w1 ⟨rfl, rfl⟩
  go_wp2_with fail
  refine HS.out.mono ?_
  rintro e w2 ⟨v, ss, rfl, hvs, ho, h2⟩
  have HO := hide ho
  have HVS := hide hvs
  have HSH : Hid (∀ u ∈ srtS ss, (⟨u.toArray⟩ : ByteArray).size ≤ 40) := fun u hu => hvs.short HV.out u ((List.mergeSort_perm ss _).mem_iff.1 hu)
  obtain ⟨a, cap, hva, hn1, hn2, hpl⟩ := ho.place
  unfold maxLen at hn2
  rw [hva] at HO ⊢
  clear HK HS ho hvs hva cM hl HV hpl
  have HTT : Hid (∀ W vv, OwnS W w.heap.size vv (srtS ss) → Below w.heap.size w W → VlPost w ev s (.returned vv) W) := fun W vv h1 h2 => ⟨vv, ss, rfl, HVS.out, h1, h2⟩
  generalize srtS ss = tt at HO HSH hn1 HTT ⊢
  clear HVS
  go_wp2
  go_loopw [18] (fun i wr => ∃ (k : Nat), k ≤ tt.length ∧ i = .int .i64 k ∧ OwnS wr w.heap.size (.slice a tt.length cap) tt ∧ Below w.heap.size w wr) (fun i _ => tt.length - (intOf i).toNat)
  case atStart => exact ⟨0, by omega, rfl, HO.out, h2⟩
  case round =>
    obtain ⟨k, hk, rfl, ho, hB⟩ := hrel
    clear HO h2
    have HOR := hide ho
    by_cases hlt : k < tt.length
    · obtain ⟨x, hx⟩ : ∃ x, tt[k]? = some x := ⟨_, List.getElem?_eq_getElem hlt⟩
      obtain ⟨a', cap', hv', _, _, hpl⟩ := ho.place
      obtain ⟨g, ha, hg, hc, _⟩ := hpl k x hx
      simp only [Value.slice.injEq] at hv'
      obtain ⟨rfl, _, rfl⟩ := hv'
      subst ha
      have HPL : Hid (∀ W, OwnS W w.heap.size (.slice (some ⟨g, 0, none⟩) tt.length cap) tt → W.cell? ⟨g, k, none⟩ = some (.string ⟨x.toArray⟩) ∧ W.frozen? ⟨g, k, none⟩ = false) := fun W hW => by
        obtain ⟨a2, c2, hv2, _, _, hp2⟩ := hW.place
        obtain ⟨g2, ha2, _, hc2, hf2⟩ := hp2 k x hx
        simp only [Value.slice.injEq] at hv2
        rw [ha2] at hv2
        simp at hv2
        obtain ⟨⟨rfl⟩, _⟩ := hv2
        exact ⟨hc2, hf2⟩
      have hu := HSH.out x (List.mem_of_getElem? hx)
      have j0 : (0 : Int) ≤ (k : Int) := by omega
      have j1 : (k : Int) < (tt.length : Int) := by omega
      generalize (⟨x.toArray⟩ : ByteArray) = xb at hc HPL hu
      clear hpl hg ho hx HSH
      go_wp2_with fail
      refine (HC.out xb _ hu).mono ?_
      rintro e w3 ⟨rfl, h3⟩
      have HO3 : Hid (OwnS w3 w.heap.size (.slice (some ⟨g, 0, none⟩) tt.length cap) tt) := HOR.out.below h3 (Nat.le_refl _)
      obtain ⟨hc3, hf3⟩ := HPL.out w3 HO3.out
      have hst := setCell_same hc3
      clear HPL hc
      go_wp2
      go_roundw
      case rel => exact ⟨k + 1, by omega, by go_num, by first | exact HO3.out | (rw [hst]; exact HO3.out), by first | exact Below.next hB h3 | (rw [hst]; exact Below.next hB h3)⟩
      case measure => simp [intOf]; omega
    · obtain rfl : k = tt.length := by omega
      have hd : decide ((tt.length : Int) < (tt.length : Int)) = false := by simp
      go_wp2
      go_ret
      exact HTT.out _ _ HOR.out hB
end Go.Proofs.Ytlghnnmgbdjgoaa
