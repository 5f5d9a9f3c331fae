/- Plain: bits as a list of truths, packed into bytes, the highest bit of a byte first; their value. -/
import Derived.Test.YteohlkpejdjenaaDoorPlain
namespace Go.Proofs.YteohlkpejdjenaaDoor
namespace P
def bit (bs : List Bool) (i : Nat) : Nat := (bs.getD i false).toNat
def byte8 (a b c d e f g h : Nat) : Nat := a * 128 + b * 64 + c * 32 + d * 16 + e * 8 + f * 4 + g * 2 + h
def byteAt (bs : List Bool) (j : Nat) : Nat := byte8 (bit bs (8 * j)) (bit bs (8 * j + 1)) (bit bs (8 * j + 2)) (bit bs (8 * j + 3)) (bit bs (8 * j + 4)) (bit bs (8 * j + 5)) (bit bs (8 * j + 6)) (bit bs (8 * j + 7))
def packTo (t : Nat) (bs : List Bool) : List Int := (List.range t).map fun j => (byteAt bs j : Int)
def bytesN (n : Nat) : Nat := (n + 7) / 8
def pack (bs : List Bool) : List Int := packTo (bytesN bs.length) bs
def val (bs : List Bool) : Nat := bs.foldl (fun a b => 2 * a + b.toNat) 0
def ofVal (v n : Nat) : List Bool := (List.range n).map fun i => decide (v / 2 ^ (n - 1 - i) % 2 = 1)

theorem bit_le (bs : List Bool) (i : Nat) : bit bs i ≤ 1 := by unfold bit; cases bs.getD i false <;> decide
theorem bit_past (bs : List Bool) (i : Nat) (h : bs.length ≤ i) : bit bs i = 0 := by
  unfold bit; rw [List.getD_eq_getElem?_getD, List.getElem?_eq_none h]; rfl
theorem bit_app_old (bs cs : List Bool) (i : Nat) (h : i < bs.length) : bit (bs ++ cs) i = bit bs i := by
  unfold bit; rw [List.getD_eq_getElem?_getD, List.getD_eq_getElem?_getD, List.getElem?_append_left h]
theorem bit_app_new (bs : List Bool) (b : Bool) : bit (bs ++ [b]) bs.length = b.toNat := by
  unfold bit; rw [List.getD_eq_getElem?_getD, List.getElem?_append_right (Nat.le_refl _)]; simp
theorem bit_snoc (bs : List Bool) (b : Bool) (i : Nat) : bit (bs ++ [b]) i = bit bs i + if i = bs.length then b.toNat else 0 := by
  rcases Nat.lt_trichotomy i bs.length with h | h | h
  · rw [bit_app_old bs [b] i h, if_neg (by omega)]; rfl
  · subst h; rw [bit_app_new, if_pos rfl, bit_past bs _ (Nat.le_refl _)]; omega
  · rw [bit_past _ i (by simp; omega), bit_past _ i (by omega), if_neg (by omega)]
theorem byteAt_lt (bs : List Bool) (j : Nat) : byteAt bs j < 256 := by
  have h := bit_le bs
  have h0 := h (8 * j); have h1 := h (8 * j + 1); have h2 := h (8 * j + 2); have h3 := h (8 * j + 3); have h4 := h (8 * j + 4); have h5 := h (8 * j + 5); have h6 := h (8 * j + 6); have h7 := h (8 * j + 7)
  unfold byteAt byte8; omega
theorem byteAt_past (bs : List Bool) (j : Nat) (h : bs.length ≤ 8 * j) : byteAt bs j = 0 := by
  unfold byteAt byte8
  rw [bit_past bs _ h, bit_past bs _ (by omega), bit_past bs _ (by omega), bit_past bs _ (by omega), bit_past bs _ (by omega), bit_past bs _ (by omega), bit_past bs _ (by omega), bit_past bs _ (by omega)]
/-- The bits of a byte. -/
theorem byteAt_bit (bs : List Bool) (i : Nat) : byteAt bs (i / 8) / 2 ^ (7 - i % 8) % 2 = bit bs i := by
  have h := bit_le bs
  generalize hj : i / 8 = j
  have h0 := h (8 * j); have h1 := h (8 * j + 1); have h2 := h (8 * j + 2); have h3 := h (8 * j + 3); have h4 := h (8 * j + 4); have h5 := h (8 * j + 5); have h6 := h (8 * j + 6); have h7 := h (8 * j + 7)
  have hm : i % 8 < 8 := Nat.mod_lt _ (by decide)
  unfold byteAt byte8
  have e : i = 8 * j + i % 8 := by omega
  generalize i % 8 = t at e hm
  subst e
  match t, hm with
  | 0, _ => simp; omega
  | 1, _ => simp; omega
  | 2, _ => simp; omega
  | 3, _ => simp; omega
  | 4, _ => simp; omega
  | 5, _ => simp; omega
  | 6, _ => simp; omega
  | 7, _ => simp; omega
/-- One bit more: the byte at which it stands has so much more; all others stay. -/
theorem byteAt_snoc (bs : List Bool) (b : Bool) (j : Nat) : byteAt (bs ++ [b]) j = byteAt bs j + if j = bs.length / 8 then b.toNat * 2 ^ (7 - bs.length % 8) else 0 := by
  unfold byteAt
  simp only [bit_snoc]
  generalize hN : bs.length = N
  by_cases h : j = N / 8
  · rw [if_pos h]
    have hm : N % 8 < 8 := Nat.mod_lt _ (by decide)
    have e : N = 8 * j + N % 8 := by omega
    clear h hN
    generalize N % 8 = t at e hm
    subst e
    unfold byte8
    match t, hm with
    | 0, _ => simp; omega
    | 1, _ => simp; omega
    | 2, _ => simp; omega
    | 3, _ => simp; omega
    | 4, _ => simp; omega
    | 5, _ => simp; omega
    | 6, _ => simp; omega
    | 7, _ => simp; omega
  · rw [if_neg h]
    rw [if_neg (by omega), if_neg (by omega), if_neg (by omega), if_neg (by omega), if_neg (by omega), if_neg (by omega), if_neg (by omega), if_neg (by omega)]
    rfl
/-- The bits behind the last one are 0. -/
theorem byteAt_low (bs : List Bool) : byteAt bs (bs.length / 8) % 2 ^ (8 - bs.length % 8) = 0 := by
  have h := bit_le bs
  have hp := bit_past bs
  generalize bs.length = N at hp
  have hm : N % 8 < 8 := Nat.mod_lt _ (by decide)
  generalize hj : N / 8 = j
  have e : N = 8 * j + N % 8 := by omega
  unfold byteAt byte8
  have h0 := h (8 * j); have h1 := h (8 * j + 1); have h2 := h (8 * j + 2); have h3 := h (8 * j + 3); have h4 := h (8 * j + 4); have h5 := h (8 * j + 5); have h6 := h (8 * j + 6); have h7 := h (8 * j + 7)
  have p0 := hp (8 * j); have p1 := hp (8 * j + 1); have p2 := hp (8 * j + 2); have p3 := hp (8 * j + 3); have p4 := hp (8 * j + 4); have p5 := hp (8 * j + 5); have p6 := hp (8 * j + 6); have p7 := hp (8 * j + 7)
  generalize N % 8 = t at e hm
  subst e
  match t, hm with
  | 0, _ => simp at *; omega
  | 1, _ => simp at *; omega
  | 2, _ => simp at *; omega
  | 3, _ => simp at *; omega
  | 4, _ => simp at *; omega
  | 5, _ => simp at *; omega
  | 6, _ => simp at *; omega
  | 7, _ => simp at *; omega

theorem packTo_len (t : Nat) (bs : List Bool) : (packTo t bs).length = t := by simp [packTo]
theorem packTo_at (t : Nat) (bs : List Bool) (j : Nat) (h : j < t) : (packTo t bs).getD j 0 = (byteAt bs j : Int) := by
  simp [packTo, List.getD_eq_getElem?_getD, h]
theorem pack_len (bs : List Bool) : (pack bs).length = bytesN bs.length := packTo_len _ _
theorem pack_byt (t : Nat) (bs : List Bool) : ∀ x ∈ packTo t bs, 0 ≤ x ∧ x ≤ 255 := by
  intro x hx
  simp [packTo] at hx
  obtain ⟨j, _, rfl⟩ := hx
  have := byteAt_lt bs j
  omega

theorem val_foldl (bs : List Bool) : ∀ a : Nat, bs.foldl (fun a b => 2 * a + b.toNat) a = a * 2 ^ bs.length + val bs := by
  induction bs with
  | nil => intro a; simp [val]
  | cons b bs ih =>
    intro a
    have e : val (b :: bs) = b.toNat * 2 ^ bs.length + val bs := by
      show bs.foldl (fun a b => 2 * a + b.toNat) (2 * 0 + b.toNat) = _
      rw [ih]; simp
    rw [List.foldl_cons, ih, e, List.length_cons, Nat.pow_succ, Nat.add_mul, Nat.add_assoc]
    congr 1
    rw [Nat.mul_comm 2 a, Nat.mul_assoc, Nat.mul_comm 2]
theorem val_cons (b : Bool) (bs : List Bool) : val (b :: bs) = b.toNat * 2 ^ bs.length + val bs := by
  show bs.foldl (fun a b => 2 * a + b.toNat) (2 * 0 + b.toNat) = _
  rw [val_foldl]; simp
theorem val_app (a b : List Bool) : val (a ++ b) = val a * 2 ^ b.length + val b := by
  unfold val; rw [List.foldl_append, val_foldl]; rfl
theorem val_snoc (a : List Bool) (b : Bool) : val (a ++ [b]) = 2 * val a + b.toNat := by
  unfold val; rw [List.foldl_append]; rfl
theorem val_lt (bs : List Bool) : val bs < 2 ^ bs.length := by
  induction bs with
  | nil => decide
  | cons b bs ih =>
    rw [val_cons, List.length_cons, Nat.pow_succ]
    cases b <;> simp <;> omega
theorem ofVal_len (v n : Nat) : (ofVal v n).length = n := by simp [ofVal]
theorem ofVal_at (v n i : Nat) (h : i < n) : (ofVal v n)[i]? = some (decide (v / 2 ^ (n - 1 - i) % 2 = 1)) := by
  simp [ofVal, h]
theorem ofVal_succ (v n : Nat) : ofVal v (n + 1) = ofVal (v / 2) n ++ [decide (v % 2 = 1)] := by
  apply List.ext_getElem?
  intro i
  rcases Nat.lt_trichotomy i n with h | h | h
  · rw [ofVal_at _ _ _ (by omega), List.getElem?_append_left (by rw [ofVal_len]; exact h), ofVal_at _ _ _ h]
    have e : v / 2 ^ (n + 1 - 1 - i) = v / 2 / 2 ^ (n - 1 - i) := by
      rw [Nat.div_div_eq_div_mul, ← Nat.pow_succ']
      congr 2; omega
    rw [e]
  · subst h
    rw [ofVal_at _ _ _ (by omega), List.getElem?_append_right (by rw [ofVal_len]; omega), ofVal_len]
    simp
  · rw [List.getElem?_eq_none (by rw [ofVal_len]; omega), List.getElem?_eq_none (by simp [ofVal_len]; omega)]
theorem val_ofVal (v n : Nat) (h : v < 2 ^ n) : val (ofVal v n) = v := by
  induction n generalizing v with
  | zero => simp at h; subst h; rfl
  | succ n ih =>
    rw [ofVal_succ, val_snoc, ih (v / 2) (by rw [Nat.pow_succ] at h; omega)]
    rcases Nat.mod_two_eq_zero_or_one v with h2 | h2 <;> simp [h2] <;> omega
theorem val_take (bs : List Bool) (p j : Nat) (h : p + j < bs.length) : val ((bs.drop p).take (j + 1)) = 2 * val ((bs.drop p).take j) + bit bs (p + j) := by
  rw [List.take_succ_eq_append_getElem (by simp; omega), val_snoc]
  congr 1
  unfold bit
  rw [List.getD_eq_getElem?_getD, List.getElem?_eq_getElem h]
  simp
theorem val_take_lt (bs : List Bool) (p j : Nat) : val ((bs.drop p).take j) < 2 ^ j := by
  refine Nat.lt_of_lt_of_le (val_lt _) (Nat.pow_le_pow_right (by decide) ?_)
  simp; omega
/-- The bits are as they should be: just as many bytes as it takes, and nothing behind the last bit. -/
def OkB (l : List Int) (n : Int) : Prop := 0 ≤ n ∧ (l.length : Int) = (n + 7) / 8 ∧ (0 < n % 8 → l.getD (l.length - 1) 0 % 2 ^ (8 - n % 8).toNat = 0)
theorem shl_zero (c n : Int) (_h0 : 0 ≤ c) (_h1 : c ≤ 255) (hu : 0 < n % 8) : (c * 2 ^ (n % 8).toNat % 256 = 0) ↔ c % 2 ^ (8 - n % 8).toNat = 0 := by
  have h2 : n % 8 < 8 := by omega
  obtain ⟨u, hu'⟩ := Int.eq_ofNat_of_zero_le (show 0 ≤ n % 8 by omega)
  rw [hu'] at hu h2 ⊢
  have e : (8 - (u : Int)).toNat = 8 - u := by omega
  rw [Int.toNat_natCast, e]
  match u, hu, h2 with
  | 0, h, _ => simp at h
  | 1, _, _ => simp; omega
  | 2, _, _ => simp; omega
  | 3, _, _ => simp; omega
  | 4, _, _ => simp; omega
  | 5, _, _ => simp; omega
  | 6, _, _ => simp; omega
  | 7, _, _ => simp; omega
  | (k + 8), _, h => omega
def unpack (l : List Int) (n : Nat) : List Bool := (List.range n).map fun i => decide (l.getD (i / 8) 0 / 2 ^ (7 - i % 8) % 2 = 1)
theorem unpack_len (l : List Int) (n : Nat) : (unpack l n).length = n := by simp [unpack]
theorem unpack_bit (l : List Int) (n i : Nat) (h : i < n) : bit (unpack l n) i = (l.getD (i / 8) 0 / 2 ^ (7 - i % 8) % 2).toNat := by
  unfold bit
  rw [List.getD_eq_getElem?_getD]
  simp only [unpack, List.getElem?_map, List.getElem?_range h, Option.map_some, Option.getD_some]
  have : l.getD (i / 8) 0 / 2 ^ (7 - i % 8) % 2 = 0 ∨ l.getD (i / 8) 0 / 2 ^ (7 - i % 8) % 2 = 1 := by omega
  rcases this with h | h <;> rw [h] <;> rfl
def byteR (c r : Nat) : Nat := byte8 (if 0 < r then c / 128 % 2 else 0) (if 1 < r then c / 64 % 2 else 0) (if 2 < r then c / 32 % 2 else 0) (if 3 < r then c / 16 % 2 else 0) (if 4 < r then c / 8 % 2 else 0) (if 5 < r then c / 4 % 2 else 0) (if 6 < r then c / 2 % 2 else 0) (if 7 < r then c % 2 else 0)
theorem byteR_eq : ∀ (c : Fin 256) (r : Fin 9), c.val % 2 ^ (8 - r.val) = 0 → byteR c.val r.val = c.val := by decide +kernel
theorem byte_unpack (l : List Int) (n j : Nat) (hb : 0 ≤ l.getD j 0 ∧ l.getD j 0 ≤ 255) (hj : 8 * j < n)
    (hlow : n < 8 * j + 8 → l.getD j 0 % 2 ^ (8 * j + 8 - n) = 0) : (byteAt (unpack l n) j : Int) = l.getD j 0 := by
  obtain ⟨c, hc⟩ := Int.eq_ofNat_of_zero_le hb.1
  have hc8 : c < 256 := by omega
  let r := min 8 (n - 8 * j)
  have hr : r < 9 := by show min 8 (n - 8 * j) < 9; omega
  have hrr : r = min 8 (n - 8 * j) := rfl
  have hget : ∀ t, t < 8 → bit (unpack l n) (8 * j + t) = if t < r then c / 2 ^ (7 - t) % 2 else 0 := by
    intro t ht
    by_cases h : t < r
    · rw [if_pos h, unpack_bit l n _ (by omega), show (8 * j + t) / 8 = j by omega, show (8 * j + t) % 8 = t by omega, hc]
      have : ((c : Int) / 2 ^ (7 - t) % 2) = ((c / 2 ^ (7 - t) % 2 : Nat) : Int) := by simp
      rw [this, Int.toNat_natCast]
    · rw [if_neg h]
      exact bit_past _ _ (by rw [unpack_len]; omega)
  have e : byteAt (unpack l n) j = byteR c r := by
    unfold byteAt byteR
    have g0 := hget 0 (by decide)
    rw [Nat.add_zero] at g0
    rw [g0, hget 1 (by decide), hget 2 (by decide), hget 3 (by decide), hget 4 (by decide), hget 5 (by decide), hget 6 (by decide), hget 7 (by decide)]
    simp
  rw [e, hc]
  have hm : c % 2 ^ (8 - r) = 0 := by
    by_cases hf : n < 8 * j + 8
    · have h2 := hlow hf
      rw [hc] at h2
      have e2 : 8 * j + 8 - n = 8 - r := by omega
      rw [e2] at h2
      have e3 : ((c : Int) % 2 ^ (8 - r)) = ((c % 2 ^ (8 - r) : Nat) : Int) := by simp
      rw [e3] at h2
      omega
    · have e2 : 8 - r = 0 := by omega
      rw [e2]; omega
  have h3 := byteR_eq ⟨c, hc8⟩ ⟨r, hr⟩ hm
  simp only at h3
  rw [h3]
theorem ok_pack (l : List Int) (n : Int) (hb : ∀ x ∈ l, 0 ≤ x ∧ x ≤ 255) (h : OkB l n) : ∃ bs : List Bool, n = bs.length ∧ l = pack bs := by
  obtain ⟨h0, hl, hlow⟩ := h
  obtain ⟨m, rfl⟩ := Int.eq_ofNat_of_zero_le h0
  refine ⟨unpack l m, by rw [unpack_len], ?_⟩
  apply List.ext_getElem?
  intro j
  by_cases hj : j < l.length
  · have hjm : 8 * j < m := by omega
    have hbj := hb l[j] (List.getElem_mem hj)
    have hg : l.getD j 0 = l[j] := by simp [List.getD_eq_getElem?_getD, List.getElem?_eq_getElem hj]
    have hu := byte_unpack l m j (by rw [hg]; exact hbj) hjm (by
      intro hlt
      have e : j = l.length - 1 := by omega
      have := hlow (by omega)
      rw [← e] at this
      have e2 : (8 - (m : Int) % 8).toNat = 8 * j + 8 - m := by omega
      rw [e2] at this; exact this)
    unfold pack packTo
    rw [unpack_len]
    have hjb : j < bytesN m := by unfold bytesN; omega
    rw [List.getElem?_map, List.getElem?_range hjb, Option.map_some, hu, hg, List.getElem?_eq_getElem hj]
  · rw [List.getElem?_eq_none (by omega), List.getElem?_eq_none (by rw [pack_len, unpack_len]; unfold bytesN; omega)]
theorem pack_ok (bs : List Bool) : OkB (pack bs) bs.length := by
  refine ⟨by omega, by rw [pack_len]; unfold bytesN; omega, ?_⟩
  intro hu
  have hj : bs.length / 8 < bytesN bs.length := by unfold bytesN; omega
  have e : (pack bs).length - 1 = bs.length / 8 := by rw [pack_len]; unfold bytesN; omega
  have h := byteAt_low bs
  rw [e, pack, packTo_at _ _ _ hj]
  have e2 : (8 - (bs.length : Int) % 8).toNat = 8 - bs.length % 8 := by omega
  rw [e2]
  have : ((byteAt bs (bs.length / 8) % 2 ^ (8 - bs.length % 8) : Nat) : Int) = ((0 : Nat) : Int) := by rw [h]
  simpa using this
theorem packTo_snoc0 (t : Nat) (xs : List Bool) : packTo t (xs ++ [false]) = packTo t xs := by
  unfold packTo
  apply List.map_congr_left
  intro j _
  rw [byteAt_snoc]; simp
theorem packTo_snoc1 (t : Nat) (xs : List Bool) (_h : xs.length / 8 < t) : packTo t (xs ++ [true]) = (packTo t xs).set (xs.length / 8) ((byteAt xs (xs.length / 8) + 2 ^ (7 - xs.length % 8) : Nat) : Int) := by
  apply List.ext_getElem?
  intro j
  rw [List.getElem?_set]
  by_cases hj : j < t
  · unfold packTo
    rw [List.getElem?_map, List.getElem?_range hj, Option.map_some, List.length_map, List.length_range, byteAt_snoc, List.getElem?_map, List.getElem?_range hj, Option.map_some]
    by_cases e : xs.length / 8 = j
    · subst e; simp [hj]
    · rw [if_neg (fun h => e h.symm), if_neg e]; simp
  · rw [List.getElem?_eq_none (by rw [packTo_len]; omega), List.getElem?_eq_none (by rw [packTo_len]; omega), packTo_len]
    split
    · omega
    · rfl
/-- The bit that is set was not. -/
theorem or_bit (xs : List Bool) : bits BinOp.or IntKind.u8 (byteAt xs (xs.length / 8) : Int) (((2 : Nat) ^ (7 - xs.length % 8) : Nat) : Int) = ((byteAt xs (xs.length / 8) + 2 ^ (7 - xs.length % 8) : Nat) : Int) := by
  have h := byteAt_low xs
  have hlt := byteAt_lt xs (xs.length / 8)
  have hp : (2 : Nat) ^ (7 - xs.length % 8) ≤ 2 ^ 7 := Nat.pow_le_pow_right (by decide) (by omega)
  have hp2 : (2 : Nat) ^ (7 - xs.length % 8) < 2 ^ (8 - xs.length % 8) := Nat.pow_lt_pow_right (by decide) (by omega)
  rw [u8_or_nat _ _ hlt (by omega), nat_join _ _ _ h hp2]
theorem shr128 (t : Nat) (h : t < 8) : (128 : Int) / 2 ^ t = ((2 ^ (7 - t) : Nat) : Int) := by
  match t, h with
  | 0, _ => decide
  | 1, _ => decide
  | 2, _ => decide
  | 3, _ => decide
  | 4, _ => decide
  | 5, _ => decide
  | 6, _ => decide
  | 7, _ => decide
theorem packTo_zero (t : Nat) (bs : List Bool) (_h : bytesN bs.length ≤ t) : (pack bs) ++ List.replicate (t - bytesN bs.length) 0 = packTo t bs := by
  apply List.ext_getElem?
  intro j
  by_cases h1 : j < bytesN bs.length
  · rw [List.getElem?_append_left (by rw [pack_len]; exact h1)]
    unfold pack packTo
    rw [List.getElem?_map, List.getElem?_map, List.getElem?_range h1, List.getElem?_range (by omega)]
  · rw [List.getElem?_append_right (by rw [pack_len]; omega), pack_len]
    by_cases h2 : j < t
    · rw [List.getElem?_replicate, if_pos (by omega)]
      unfold packTo
      rw [List.getElem?_map, List.getElem?_range h2, Option.map_some, byteAt_past bs j (by unfold bytesN at h1; omega)]
      rfl
    · rw [List.getElem?_replicate, if_neg (by omega), List.getElem?_eq_none (by rw [packTo_len]; omega)]
theorem take_ofVal (u m j : Nat) (h : j < m) : (ofVal u m).take (j + 1) = (ofVal u m).take j ++ [decide (u / 2 ^ (m - 1 - j) % 2 = 1)] := by
  rw [List.take_succ_eq_append_getElem (by rw [ofVal_len]; exact h)]
  have := ofVal_at u m j h
  rw [List.getElem?_eq_getElem (by rw [ofVal_len]; exact h)] at this
  simp only [Option.some.injEq] at this
  rw [this]
theorem and_one (u t : Nat) (h : u < 18446744073709551616) : bits BinOp.and IntKind.u64 ((u : Int) / 2 ^ t) 1 = ((u / 2 ^ t % 2 : Nat) : Int) := by
  have e0 : ((u : Int) / 2 ^ t) = ((u / 2 ^ t : Nat) : Int) := by simp
  have hle : u / 2 ^ t ≤ u := Nat.div_le_self _ _
  rw [e0]
  generalize u / 2 ^ t = q at hle
  have := bits_mask .u64 64 (by decide) (fun n a b => by rw [IntKind.wrap_u64]; omega) 1 (by decide) (q : Int) (by omega) (by omega)
  simpa using this
/-- What Pull answers of bits that are right: the number, the error. -/
def pullE (bs : List Bool) (p k : Int) : Int := if k < 0 ∨ 64 < k ∨ p < 0 then 1 else if (bs.length : Int) - k < p then 3 else 0
def pullV (bs : List Bool) (p k : Int) : Int := if k < 0 ∨ 64 < k ∨ p < 0 then 0 else if (bs.length : Int) - k < p then 0 else (val ((bs.drop p.toNat).take k.toNat) : Nat)
theorem pull_in (bs : List Bool) (p k : Int) (h : 0 ≤ k ∧ k ≤ 64 ∧ 0 ≤ p ∧ p + k ≤ bs.length) : pullE bs p k = 0 ∧ pullV bs p k = (val ((bs.drop p.toNat).take k.toNat) : Nat) := by
  unfold pullE pullV
  rw [if_neg (by omega), if_neg (by omega), if_neg (by omega), if_neg (by omega)]
  exact ⟨rfl, rfl⟩
theorem pull_out (bs : List Bool) (p k : Int) (h : ¬ (0 ≤ k ∧ k ≤ 64 ∧ 0 ≤ p ∧ p + k ≤ bs.length)) : pullE bs p k ≠ 0 ∧ pullV bs p k = 0 := by
  unfold pullE pullV
  by_cases h1 : k < 0 ∨ 64 < k ∨ p < 0
  · rw [if_pos h1, if_pos h1]; exact ⟨by decide, rfl⟩
  · rw [if_neg h1, if_neg h1, if_pos (by omega), if_pos (by omega)]; exact ⟨by decide, rfl⟩
theorem val_split (bs : List Bool) (p n m : Nat) (h : p + n + m ≤ bs.length) : val ((bs.drop p).take (n + m)) = val ((bs.drop p).take n) * 2 ^ m + val ((bs.drop (p + n)).take m) := by
  rw [List.take_add, val_app, List.drop_drop]
  congr 2
  rw [List.length_take, List.length_drop, Nat.min_eq_left (by omega)]
theorem or_join (B C m V : Nat) (hC : C < 2 ^ m) (hV : V = B * 2 ^ m + C) (hlt : V < 18446744073709551616) : bits BinOp.or IntKind.u64 (IntKind.u64.wrap ((B : Int) * 2 ^ m)) (C : Int) = (V : Int) := by
  have e : ((B : Int) * 2 ^ m) = ((B * 2 ^ m : Nat) : Int) := by simp
  rw [e, IntKind.wrap_u64, Int.emod_eq_of_lt (by omega) (by omega), u64_or_nat _ _ (by omega) (by omega), nat_join m _ _ (by simp) hC, hV]
/-- The bits behind the last one, one by one. -/
theorem low_bits : ∀ (c : Fin 256) (r : Fin 9), (c.val % 2 ^ (8 - r.val) = 0) ↔ ∀ t : Fin 8, r.val ≤ t.val → c.val / 2 ^ (7 - t.val) % 2 = 0 := by decide +kernel
/-- A bit of bytes. -/
def bitZ (l : List Int) (i : Nat) : Int := l.getD (i / 8) 0 / 2 ^ (7 - i % 8) % 2
theorem okB_iff (l : List Int) (n : Nat) (hb : ∀ x ∈ l, 0 ≤ x ∧ x ≤ 255) (hl : n ≤ 8 * l.length) (hl2 : 8 * l.length ≤ n + 7) : OkB l n ↔ ∀ i, n ≤ i → i < 8 * l.length → bitZ l i = 0 := by
  unfold OkB
  by_cases h0 : n % 8 = 0
  · constructor
    · intro _ i h1 h2; omega
    · intro _; exact ⟨by omega, by omega, fun h => by omega⟩
  · have hpos : 0 < l.length := by omega
    have hlast := hb (l[l.length - 1]'(by omega)) (List.getElem_mem _)
    have hg : l.getD (l.length - 1) 0 = l[l.length - 1]'(by omega) := by simp [List.getD_eq_getElem?_getD, List.getElem?_eq_getElem (show l.length - 1 < l.length by omega)]
    rw [← hg] at hlast
    obtain ⟨c, hc⟩ := Int.eq_ofNat_of_zero_le hlast.1
    have hc8 : c < 256 := by omega
    have key := low_bits ⟨c, hc8⟩ ⟨n % 8, by omega⟩
    simp only at key
    have e : (8 - (n : Int) % 8).toNat = 8 - n % 8 := by omega
    have hcast : ((c : Int) % 2 ^ (8 - n % 8) = 0) ↔ c % 2 ^ (8 - n % 8) = 0 := by
      have : ((c : Int) % 2 ^ (8 - n % 8)) = ((c % 2 ^ (8 - n % 8) : Nat) : Int) := by simp
      rw [this]; omega
    rw [hc, e, hcast, key]
    constructor
    · rintro ⟨_, _, h3⟩ i h1 h2
      have h4 := h3 (by omega) ⟨i % 8, by omega⟩ (by simp only; omega)
      simp only at h4
      unfold bitZ
      rw [show i / 8 = l.length - 1 by omega, hc]
      have : ((c : Int) / 2 ^ (7 - i % 8) % 2) = ((c / 2 ^ (7 - i % 8) % 2 : Nat) : Int) := by simp
      rw [this, h4]; rfl
    · intro h
      refine ⟨by omega, by omega, fun _ t ht => ?_⟩
      have h4 := h (8 * (l.length - 1) + t.val) (by omega) (by have := t.isLt; omega)
      unfold bitZ at h4
      rw [show (8 * (l.length - 1) + t.val) / 8 = l.length - 1 by have := t.isLt; omega, show (8 * (l.length - 1) + t.val) % 8 = t.val by have := t.isLt; omega, hc] at h4
      have : ((c : Int) / 2 ^ (7 - t.val) % 2) = ((c / 2 ^ (7 - t.val) % 2 : Nat) : Int) := by simp
      rw [this] at h4; omega
theorem val8 (bs : List Bool) (k : Nat) (h : 8 * k + 8 ≤ bs.length) : val ((bs.drop (8 * k)).take 8) = byteAt bs k := by
  have e0 : val ((bs.drop (8 * k)).take 0) = 0 := by simp [val]
  have e1 := val_take bs (8 * k) 0 (by omega)
  have e2 := val_take bs (8 * k) 1 (by omega)
  have e3 := val_take bs (8 * k) 2 (by omega)
  have e4 := val_take bs (8 * k) 3 (by omega)
  have e5 := val_take bs (8 * k) 4 (by omega)
  have e6 := val_take bs (8 * k) 5 (by omega)
  have e7 := val_take bs (8 * k) 6 (by omega)
  have e8 := val_take bs (8 * k) 7 (by omega)
  simp only [Nat.zero_add, Nat.reduceAdd, Nat.add_zero] at e1 e2 e3 e4 e5 e6 e7 e8
  unfold byteAt byte8
  rw [e8, e7, e6, e5, e4, e3, e2, e1, e0]
  omega
theorem bit_pad (bs : List Bool) (j i : Nat) : bit (bs ++ List.replicate j false) i = bit bs i := by
  by_cases h : i < bs.length
  · exact bit_app_old bs _ i h
  · rw [bit_past bs i (by omega)]
    unfold bit
    rw [List.getD_eq_getElem?_getD, List.getElem?_append_right (by omega), List.getElem?_replicate]
    split <;> rfl
theorem byteAt_pad (bs : List Bool) (j k : Nat) : byteAt (bs ++ List.replicate j false) k = byteAt bs k := by
  unfold byteAt; simp only [bit_pad]
theorem packTo_succ (k : Nat) (bs : List Bool) : packTo (k + 1) bs = packTo k bs ++ [(byteAt bs k : Int)] := by
  unfold packTo; rw [List.range_succ, List.map_append]; rfl
/-- One step of reading bits. -/
theorem or_and (V c t : Nat) (hV : V < 9223372036854775808) (hc : c < 256) :
    bits BinOp.or IntKind.u64 ((V : Int) * 2) (IntKind.u64.wrap (bits BinOp.and IntKind.u8 ((c : Int) / 2 ^ t) 1)) = ((2 * V + c / 2 ^ t % 2 : Nat) : Int) := by
  have e0 : ((c : Int) / 2 ^ t) = ((c / 2 ^ t : Nat) : Int) := by simp
  have hle : c / 2 ^ t ≤ c := Nat.div_le_self _ _
  rw [e0]
  generalize c / 2 ^ t = q at hle
  have e1 : bits BinOp.and IntKind.u8 (q : Int) 1 = ((q % 2 : Nat) : Int) := by
    have := bits_mask .u8 8 (by decide) wraps_u8 1 (by decide) (q : Int) (by omega) (by omega)
    simpa using this
  rw [e1, IntKind.wrap_u64]
  generalize hx : q % 2 = x
  have hx2 : x < 2 := by omega
  have e2 : ((x : Int) % 18446744073709551616) = (x : Int) := by omega
  have e3 : ((V : Int) * 2) = ((V * 2 : Nat) : Int) := by simp
  rw [e2, e3, u64_or_nat _ _ (by omega) (by omega), nat_join 1 _ _ (by omega) (by omega)]
  omega
end P
end Go.Proofs.YteohlkpejdjenaaDoor
