/- Several texts in one. -/
import Derived.Laws.BitsAllLaws
import Derived.RowKit
import Derived.IntWalk
import Derived.Test.YtfjbdgkdkbcnhaaDoorRows
import Derived.WalkKit
import Derived.WalkSpells
import Derived.WalkLawsBesides
import Derived.Laws.AppendOwnNone
import Derived.ProofKit
import Derived.OpenShut
import Derived.ShutString
import Derived.ChangeOld
import Derived.SizedLaws
import Derived.Lib.SmallJoins
import Derived.JoinedCond
import Derived.Deep.CondSized
import Derived.Deep.QuietTactic
import Derived.BigQuiet
import Derived.Deep.RegionHeld3
import Derived.Deep.DeepCutAuto
import Derived.Laws.CopyOwn
import Derived.Deep.OwnRows
import Derived.Laws.Tables
/- Plain functions and lemmas on numbers and lists of bytes: zigzag, bytes of a number. -/
namespace Go.Proofs.YtfjbdgkdkbcnhaaDoor
namespace P
def zig (n : Int) : Int := if 0 ≤ n then 2 * n else -2 * n - 1
def zag (u : Int) : Int := if u % 2 = 0 then u / 2 else -(u / 2) - 1
theorem xor_ones (a : Nat) (h : a < 18446744073709551616) : a ^^^ 18446744073709551615 = 18446744073709551615 - a := by
  have e : (BitVec.ofNat 64 a ^^^ BitVec.allOnes 64).toNat = (~~~ BitVec.ofNat 64 a).toNat := by rw [BitVec.xor_allOnes]
  rw [BitVec.toNat_xor, BitVec.toNat_not] at e
  simp at e
  rw [Nat.mod_eq_of_lt h] at e
  exact e
theorem zig_bits (n : Int) (h0 : -9223372036854775808 ≤ n) (h1 : n ≤ 9223372036854775807) :
    bits BinOp.xor IntKind.u64 (IntKind.u64.wrap (IntKind.u64.wrap n * 2)) (IntKind.u64.wrap (n / 9223372036854775808)) = zig n := by
  unfold zig
  rw [IntKind.wrap_u64, IntKind.wrap_u64, IntKind.wrap_u64]
  rw [u64_xor _ _ (by omega) (by omega) (by omega) (by omega)]
  by_cases h : 0 ≤ n
  · rw [if_pos h]
    have e : (n / 9223372036854775808) % 18446744073709551616 = 0 := by omega
    rw [e]
    simp
    omega
  · rw [if_neg h]
    have e : (n / 9223372036854775808) % 18446744073709551616 = 18446744073709551615 := by omega
    rw [e]
    have e2 : (18446744073709551615 : Int).toNat = 18446744073709551615 := rfl
    rw [e2, xor_ones _ (by omega)]
    omega
theorem zag_bits (n : Int) (h0 : 0 ≤ n) (h1 : n ≤ 18446744073709551615) :
    bits BinOp.xor IntKind.i64 (n / 2) (RowKit.wrap64 (-RowKit.wrap64 (bits BinOp.and IntKind.u64 n 1))) = zag n := by
  unfold zag
  have e1 : bits BinOp.and IntKind.u64 n 1 = n % 2 := bits_mask .u64 64 (by decide) (fun n a b => by rw [IntKind.wrap_u64]; omega) 1 (by decide) n h0 (by omega)
  rw [e1]
  by_cases h : n % 2 = 0
  · rw [if_pos h, h]
    have e : RowKit.wrap64 (-RowKit.wrap64 0) = 0 := by simp only [RowKit.wrap64]; decide
    rw [e]
    show IntKind.i64.wrap ((BitVec.ofInt 64 (n / 2) ^^^ BitVec.ofInt 64 0).toNat : Int) = _
    simp
    rw [IntKind.wrap_i64]
    omega
  · rw [if_neg h, show n % 2 = 1 by omega]
    have e : RowKit.wrap64 (-RowKit.wrap64 1) = -1 := by simp only [RowKit.wrap64]; decide
    rw [e]
    obtain ⟨m, hm⟩ := Int.eq_ofNat_of_zero_le (show 0 ≤ n / 2 by omega)
    rw [hm]
    show IntKind.i64.wrap ((BitVec.ofInt 64 (m : Int) ^^^ BitVec.ofInt 64 (-1)).toNat : Int) = _
    have h2 : BitVec.ofInt 64 (-1) = BitVec.allOnes 64 := by decide
    rw [h2, BitVec.xor_allOnes, BitVec.toNat_not, ofInt_u64 m (by omega), IntKind.wrap_i64]
    omega
theorem zig_range (n : Int) (h0 : -9223372036854775808 ≤ n) (h1 : n ≤ 9223372036854775807) : 0 ≤ zig n ∧ zig n ≤ 18446744073709551615 := by
  unfold zig; split <;> omega
theorem zag_range (n : Int) (h0 : 0 ≤ n) (h1 : n ≤ 18446744073709551615) : -9223372036854775808 ≤ zag n ∧ zag n ≤ 9223372036854775807 := by
  unfold zag; split <;> omega
theorem zag_zig (n : Int) : zag (zig n) = n := by
  unfold zag zig; split <;> split <;> omega
theorem zig_zag (u : Int) (h : 0 ≤ u) : zig (zag u) = u := by
  unfold zag zig; split <;> split <;> omega

/-- The bytes of a number, lowest first, with so much fuel. -/
def putL : Nat → Int → List Int
  | 0, u => [u]
  | f + 1, u => if u < 128 then [u] else (u % 128 + 128) :: putL f (u / 128)
def put (u : Int) : List Int := putL 9 u
theorem putL_small (f : Nat) (u : Int) (h : u < 128) : putL f u = [u] := by cases f <;> simp [putL, h]
theorem putL_step (f : Nat) (u : Int) (h : 128 ≤ u) (hb : u < 2 * 128 ^ f) : ∃ g, f = g + 1 ∧ putL f u = (u % 128 + 128) :: putL g (u / 128) ∧ u / 128 < 2 * 128 ^ g := by
  cases f with
  | zero => simp at hb; omega
  | succ g =>
    refine ⟨g, rfl, ?_, ?_⟩
    · rw [putL, if_neg (by omega)]
    · rw [Int.pow_succ] at hb; omega
theorem putL_len (f : Nat) (u : Int) : 1 ≤ (putL f u).length ∧ (putL f u).length ≤ f + 1 := by
  induction f generalizing u with
  | zero => simp [putL]
  | succ f ih =>
    rw [putL]
    split
    · simp
    · have := ih (u / 128); simp; omega
theorem put_len (u : Int) : 1 ≤ (put u).length ∧ (put u).length ≤ 10 := putL_len 9 u
theorem putL_mono (f : Nat) (a b : Int) (h0 : 0 ≤ a) (h : a ≤ b) : (putL f a).length ≤ (putL f b).length := by
  induction f generalizing a b with
  | zero => simp [putL]
  | succ f ih =>
    rw [putL, putL]
    split
    · split
      · simp
      · have := putL_len f (b / 128); simp
    · rw [if_neg (by omega)]
      have := ih (a / 128) (b / 128) (by omega) (by omega)
      simp; omega
theorem put_mono (a b : Int) (h0 : 0 ≤ a) (h : a ≤ b) : (put a).length ≤ (put b).length := putL_mono 9 a b h0 h
end P
end Go.Proofs.YtfjbdgkdkbcnhaaDoor
/- Plain: bits as a list of truths, packed into bytes, the highest bit of a byte first; their value. -/
namespace Go.Proofs.YtfjbdgkdkbcnhaaDoor
namespace P
def bit (bs : List Bool) (i : Nat) : Nat := (bs.getD i false).toNat
def byte8 (a b c d e f g h : Nat) : Nat := a * 128 + b * 64 + c * 32 + d * 16 + e * 8 + f * 4 + g * 2 + h
def byteAt (bs : List Bool) (j : Nat) : Nat := byte8 (bit bs (8 * j)) (bit bs (8 * j + 1)) (bit bs (8 * j + 2)) (bit bs (8 * j + 3)) (bit bs (8 * j + 4)) (bit bs (8 * j + 5)) (bit bs (8 * j + 6)) (bit bs (8 * j + 7))
def packTo (t : Nat) (bs : List Bool) : List Int := (List.range t).map fun j => (byteAt bs j : Int)
def bytesN (n : Nat) : Nat := (n + 7) / 8
def pack (bs : List Bool) : List Int := packTo (bytesN bs.length) bs
def val (bs : List Bool) : Nat := bs.foldl (fun a b => 2 * a + b.toNat) 0
def ofVal (v n : Nat) : List Bool := (List.range n).map fun i => decide (v / 2 ^ (n - 1 - i) % 2 = 1)

theorem bit_le (bs : List Bool) (i : Nat) : bit bs i ≤ 1 := by unfold bit; cases bs.getD i false <;> decide
theorem bit_past (bs : List Bool) (i : Nat) (h : bs.length ≤ i) : bit bs i = 0 := by
  unfold bit; rw [List.getD_eq_getElem?_getD, List.getElem?_eq_none h]; rfl
theorem bit_app_old (bs cs : List Bool) (i : Nat) (h : i < bs.length) : bit (bs ++ cs) i = bit bs i := by
  unfold bit; rw [List.getD_eq_getElem?_getD, List.getD_eq_getElem?_getD, List.getElem?_append_left h]
theorem bit_app_new (bs : List Bool) (b : Bool) : bit (bs ++ [b]) bs.length = b.toNat := by
  unfold bit; rw [List.getD_eq_getElem?_getD, List.getElem?_append_right (Nat.le_refl _)]; simp
theorem bit_snoc (bs : List Bool) (b : Bool) (i : Nat) : bit (bs ++ [b]) i = bit bs i + if i = bs.length then b.toNat else 0 := by
  rcases Nat.lt_trichotomy i bs.length with h | h | h
  · rw [bit_app_old bs [b] i h, if_neg (by omega)]; rfl
  · subst h; rw [bit_app_new, if_pos rfl, bit_past bs _ (Nat.le_refl _)]; omega
  · rw [bit_past _ i (by simp; omega), bit_past _ i (by omega), if_neg (by omega)]
theorem byteAt_lt (bs : List Bool) (j : Nat) : byteAt bs j < 256 := by
  have h := bit_le bs
  have h0 := h (8 * j); have h1 := h (8 * j + 1); have h2 := h (8 * j + 2); have h3 := h (8 * j + 3); have h4 := h (8 * j + 4); have h5 := h (8 * j + 5); have h6 := h (8 * j + 6); have h7 := h (8 * j + 7)
  unfold byteAt byte8; omega
theorem byteAt_past (bs : List Bool) (j : Nat) (h : bs.length ≤ 8 * j) : byteAt bs j = 0 := by
  unfold byteAt byte8
  rw [bit_past bs _ h, bit_past bs _ (by omega), bit_past bs _ (by omega), bit_past bs _ (by omega), bit_past bs _ (by omega), bit_past bs _ (by omega), bit_past bs _ (by omega), bit_past bs _ (by omega)]
/-- The bits of a byte. -/
theorem byteAt_bit (bs : List Bool) (i : Nat) : byteAt bs (i / 8) / 2 ^ (7 - i % 8) % 2 = bit bs i := by
  have h := bit_le bs
  generalize hj : i / 8 = j
  have h0 := h (8 * j); have h1 := h (8 * j + 1); have h2 := h (8 * j + 2); have h3 := h (8 * j + 3); have h4 := h (8 * j + 4); have h5 := h (8 * j + 5); have h6 := h (8 * j + 6); have h7 := h (8 * j + 7)
  have hm : i % 8 < 8 := Nat.mod_lt _ (by decide)
  unfold byteAt byte8
  have e : i = 8 * j + i % 8 := by omega
  generalize i % 8 = t at e hm
  subst e
  match t, hm with
  | 0, _ => simp; omega
  | 1, _ => simp; omega
  | 2, _ => simp; omega
  | 3, _ => simp; omega
  | 4, _ => simp; omega
  | 5, _ => simp; omega
  | 6, _ => simp; omega
  | 7, _ => simp; omega
/-- One bit more: the byte at which it stands has so much more; all others stay. -/
theorem byteAt_snoc (bs : List Bool) (b : Bool) (j : Nat) : byteAt (bs ++ [b]) j = byteAt bs j + if j = bs.length / 8 then b.toNat * 2 ^ (7 - bs.length % 8) else 0 := by
  unfold byteAt
  simp only [bit_snoc]
  generalize hN : bs.length = N
  by_cases h : j = N / 8
  · rw [if_pos h]
    have hm : N % 8 < 8 := Nat.mod_lt _ (by decide)
    have e : N = 8 * j + N % 8 := by omega
    clear h hN
    generalize N % 8 = t at e hm
    subst e
    unfold byte8
    match t, hm with
    | 0, _ => simp; omega
    | 1, _ => simp; omega
    | 2, _ => simp; omega
    | 3, _ => simp; omega
    | 4, _ => simp; omega
    | 5, _ => simp; omega
    | 6, _ => simp; omega
    | 7, _ => simp; omega
  · rw [if_neg h]
    rw [if_neg (by omega), if_neg (by omega), if_neg (by omega), if_neg (by omega), if_neg (by omega), if_neg (by omega), if_neg (by omega), if_neg (by omega)]
    rfl
/-- The bits behind the last one are 0. -/
theorem byteAt_low (bs : List Bool) : byteAt bs (bs.length / 8) % 2 ^ (8 - bs.length % 8) = 0 := by
  have h := bit_le bs
  have hp := bit_past bs
  generalize bs.length = N at hp
  have hm : N % 8 < 8 := Nat.mod_lt _ (by decide)
  generalize hj : N / 8 = j
  have e : N = 8 * j + N % 8 := by omega
  unfold byteAt byte8
  have h0 := h (8 * j); have h1 := h (8 * j + 1); have h2 := h (8 * j + 2); have h3 := h (8 * j + 3); have h4 := h (8 * j + 4); have h5 := h (8 * j + 5); have h6 := h (8 * j + 6); have h7 := h (8 * j + 7)
  have p0 := hp (8 * j); have p1 := hp (8 * j + 1); have p2 := hp (8 * j + 2); have p3 := hp (8 * j + 3); have p4 := hp (8 * j + 4); have p5 := hp (8 * j + 5); have p6 := hp (8 * j + 6); have p7 := hp (8 * j + 7)
  generalize N % 8 = t at e hm
  subst e
  match t, hm with
  | 0, _ => simp at *; omega
  | 1, _ => simp at *; omega
  | 2, _ => simp at *; omega
  | 3, _ => simp at *; omega
  | 4, _ => simp at *; omega
  | 5, _ => simp at *; omega
  | 6, _ => simp at *; omega
  | 7, _ => simp at *; omega

theorem packTo_len (t : Nat) (bs : List Bool) : (packTo t bs).length = t := by simp [packTo]
theorem packTo_at (t : Nat) (bs : List Bool) (j : Nat) (h : j < t) : (packTo t bs).getD j 0 = (byteAt bs j : Int) := by
  simp [packTo, List.getD_eq_getElem?_getD, h]
theorem pack_len (bs : List Bool) : (pack bs).length = bytesN bs.length := packTo_len _ _
theorem pack_byt (t : Nat) (bs : List Bool) : ∀ x ∈ packTo t bs, 0 ≤ x ∧ x ≤ 255 := by
  intro x hx
  simp [packTo] at hx
  obtain ⟨j, _, rfl⟩ := hx
  have := byteAt_lt bs j
  omega

theorem val_foldl (bs : List Bool) : ∀ a : Nat, bs.foldl (fun a b => 2 * a + b.toNat) a = a * 2 ^ bs.length + val bs := by
  induction bs with
  | nil => intro a; simp [val]
  | cons b bs ih =>
    intro a
    have e : val (b :: bs) = b.toNat * 2 ^ bs.length + val bs := by
      show bs.foldl (fun a b => 2 * a + b.toNat) (2 * 0 + b.toNat) = _
      rw [ih]; simp
    rw [List.foldl_cons, ih, e, List.length_cons, Nat.pow_succ, Nat.add_mul, Nat.add_assoc]
    congr 1
    rw [Nat.mul_comm 2 a, Nat.mul_assoc, Nat.mul_comm 2]
theorem val_cons (b : Bool) (bs : List Bool) : val (b :: bs) = b.toNat * 2 ^ bs.length + val bs := by
  show bs.foldl (fun a b => 2 * a + b.toNat) (2 * 0 + b.toNat) = _
  rw [val_foldl]; simp
theorem val_app (a b : List Bool) : val (a ++ b) = val a * 2 ^ b.length + val b := by
  unfold val; rw [List.foldl_append, val_foldl]; rfl
theorem val_snoc (a : List Bool) (b : Bool) : val (a ++ [b]) = 2 * val a + b.toNat := by
  unfold val; rw [List.foldl_append]; rfl
theorem val_lt (bs : List Bool) : val bs < 2 ^ bs.length := by
  induction bs with
  | nil => decide
  | cons b bs ih =>
    rw [val_cons, List.length_cons, Nat.pow_succ]
    cases b <;> simp <;> omega
theorem ofVal_len (v n : Nat) : (ofVal v n).length = n := by simp [ofVal]
theorem ofVal_at (v n i : Nat) (h : i < n) : (ofVal v n)[i]? = some (decide (v / 2 ^ (n - 1 - i) % 2 = 1)) := by
  simp [ofVal, h]
theorem ofVal_succ (v n : Nat) : ofVal v (n + 1) = ofVal (v / 2) n ++ [decide (v % 2 = 1)] := by
  apply List.ext_getElem?
  intro i
  rcases Nat.lt_trichotomy i n with h | h | h
  · rw [ofVal_at _ _ _ (by omega), List.getElem?_append_left (by rw [ofVal_len]; exact h), ofVal_at _ _ _ h]
    have e : v / 2 ^ (n + 1 - 1 - i) = v / 2 / 2 ^ (n - 1 - i) := by
      rw [Nat.div_div_eq_div_mul, ← Nat.pow_succ']
      congr 2; omega
    rw [e]
  · subst h
    rw [ofVal_at _ _ _ (by omega), List.getElem?_append_right (by rw [ofVal_len]; omega), ofVal_len]
    simp
  · rw [List.getElem?_eq_none (by rw [ofVal_len]; omega), List.getElem?_eq_none (by simp [ofVal_len]; omega)]
theorem val_ofVal (v n : Nat) (h : v < 2 ^ n) : val (ofVal v n) = v := by
  induction n generalizing v with
  | zero => simp at h; subst h; rfl
  | succ n ih =>
    rw [ofVal_succ, val_snoc, ih (v / 2) (by rw [Nat.pow_succ] at h; omega)]
    rcases Nat.mod_two_eq_zero_or_one v with h2 | h2 <;> simp [h2] <;> omega
theorem val_take (bs : List Bool) (p j : Nat) (h : p + j < bs.length) : val ((bs.drop p).take (j + 1)) = 2 * val ((bs.drop p).take j) + bit bs (p + j) := by
  rw [List.take_succ_eq_append_getElem (by simp; omega), val_snoc]
  congr 1
  unfold bit
  rw [List.getD_eq_getElem?_getD, List.getElem?_eq_getElem h]
  simp
theorem val_take_lt (bs : List Bool) (p j : Nat) : val ((bs.drop p).take j) < 2 ^ j := by
  refine Nat.lt_of_lt_of_le (val_lt _) (Nat.pow_le_pow_right (by decide) ?_)
  simp; omega
/-- The bits are as they should be: just as many bytes as it takes, and nothing behind the last bit. -/
def OkB (l : List Int) (n : Int) : Prop := 0 ≤ n ∧ (l.length : Int) = (n + 7) / 8 ∧ (0 < n % 8 → l.getD (l.length - 1) 0 % 2 ^ (8 - n % 8).toNat = 0)
theorem shl_zero (c n : Int) (_h0 : 0 ≤ c) (_h1 : c ≤ 255) (hu : 0 < n % 8) : (c * 2 ^ (n % 8).toNat % 256 = 0) ↔ c % 2 ^ (8 - n % 8).toNat = 0 := by
  have h2 : n % 8 < 8 := by omega
  obtain ⟨u, hu'⟩ := Int.eq_ofNat_of_zero_le (show 0 ≤ n % 8 by omega)
  rw [hu'] at hu h2 ⊢
  have e : (8 - (u : Int)).toNat = 8 - u := by omega
  rw [Int.toNat_natCast, e]
  match u, hu, h2 with
  | 0, h, _ => simp at h
  | 1, _, _ => simp; omega
  | 2, _, _ => simp; omega
  | 3, _, _ => simp; omega
  | 4, _, _ => simp; omega
  | 5, _, _ => simp; omega
  | 6, _, _ => simp; omega
  | 7, _, _ => simp; omega
  | (k + 8), _, h => omega
def unpack (l : List Int) (n : Nat) : List Bool := (List.range n).map fun i => decide (l.getD (i / 8) 0 / 2 ^ (7 - i % 8) % 2 = 1)
theorem unpack_len (l : List Int) (n : Nat) : (unpack l n).length = n := by simp [unpack]
theorem unpack_bit (l : List Int) (n i : Nat) (h : i < n) : bit (unpack l n) i = (l.getD (i / 8) 0 / 2 ^ (7 - i % 8) % 2).toNat := by
  unfold bit
  rw [List.getD_eq_getElem?_getD]
  simp only [unpack, List.getElem?_map, List.getElem?_range h, Option.map_some, Option.getD_some]
  have : l.getD (i / 8) 0 / 2 ^ (7 - i % 8) % 2 = 0 ∨ l.getD (i / 8) 0 / 2 ^ (7 - i % 8) % 2 = 1 := by omega
  rcases this with h | h <;> rw [h] <;> rfl
def byteR (c r : Nat) : Nat := byte8 (if 0 < r then c / 128 % 2 else 0) (if 1 < r then c / 64 % 2 else 0) (if 2 < r then c / 32 % 2 else 0) (if 3 < r then c / 16 % 2 else 0) (if 4 < r then c / 8 % 2 else 0) (if 5 < r then c / 4 % 2 else 0) (if 6 < r then c / 2 % 2 else 0) (if 7 < r then c % 2 else 0)
theorem byteR_eq : ∀ (c : Fin 256) (r : Fin 9), c.val % 2 ^ (8 - r.val) = 0 → byteR c.val r.val = c.val := by decide +kernel
theorem byte_unpack (l : List Int) (n j : Nat) (hb : 0 ≤ l.getD j 0 ∧ l.getD j 0 ≤ 255) (hj : 8 * j < n)
    (hlow : n < 8 * j + 8 → l.getD j 0 % 2 ^ (8 * j + 8 - n) = 0) : (byteAt (unpack l n) j : Int) = l.getD j 0 := by
  obtain ⟨c, hc⟩ := Int.eq_ofNat_of_zero_le hb.1
  have hc8 : c < 256 := by omega
  let r := min 8 (n - 8 * j)
  have hr : r < 9 := by show min 8 (n - 8 * j) < 9; omega
  have hrr : r = min 8 (n - 8 * j) := rfl
  have hget : ∀ t, t < 8 → bit (unpack l n) (8 * j + t) = if t < r then c / 2 ^ (7 - t) % 2 else 0 := by
    intro t ht
    by_cases h : t < r
    · rw [if_pos h, unpack_bit l n _ (by omega), show (8 * j + t) / 8 = j by omega, show (8 * j + t) % 8 = t by omega, hc]
      have : ((c : Int) / 2 ^ (7 - t) % 2) = ((c / 2 ^ (7 - t) % 2 : Nat) : Int) := by simp
      rw [this, Int.toNat_natCast]
    · rw [if_neg h]
      exact bit_past _ _ (by rw [unpack_len]; omega)
  have e : byteAt (unpack l n) j = byteR c r := by
    unfold byteAt byteR
    have g0 := hget 0 (by decide)
    rw [Nat.add_zero] at g0
    rw [g0, hget 1 (by decide), hget 2 (by decide), hget 3 (by decide), hget 4 (by decide), hget 5 (by decide), hget 6 (by decide), hget 7 (by decide)]
    simp
  rw [e, hc]
  have hm : c % 2 ^ (8 - r) = 0 := by
    by_cases hf : n < 8 * j + 8
    · have h2 := hlow hf
      rw [hc] at h2
      have e2 : 8 * j + 8 - n = 8 - r := by omega
      rw [e2] at h2
      have e3 : ((c : Int) % 2 ^ (8 - r)) = ((c % 2 ^ (8 - r) : Nat) : Int) := by simp
      rw [e3] at h2
      omega
    · have e2 : 8 - r = 0 := by omega
      rw [e2]; omega
  have h3 := byteR_eq ⟨c, hc8⟩ ⟨r, hr⟩ hm
  simp only at h3
  rw [h3]
theorem ok_pack (l : List Int) (n : Int) (hb : ∀ x ∈ l, 0 ≤ x ∧ x ≤ 255) (h : OkB l n) : ∃ bs : List Bool, n = bs.length ∧ l = pack bs := by
  obtain ⟨h0, hl, hlow⟩ := h
  obtain ⟨m, rfl⟩ := Int.eq_ofNat_of_zero_le h0
  refine ⟨unpack l m, by rw [unpack_len], ?_⟩
  apply List.ext_getElem?
  intro j
  by_cases hj : j < l.length
  · have hjm : 8 * j < m := by omega
    have hbj := hb l[j] (List.getElem_mem hj)
    have hg : l.getD j 0 = l[j] := by simp [List.getD_eq_getElem?_getD, List.getElem?_eq_getElem hj]
    have hu := byte_unpack l m j (by rw [hg]; exact hbj) hjm (by
      intro hlt
      have e : j = l.length - 1 := by omega
      have := hlow (by omega)
      rw [← e] at this
      have e2 : (8 - (m : Int) % 8).toNat = 8 * j + 8 - m := by omega
      rw [e2] at this; exact this)
    unfold pack packTo
    rw [unpack_len]
    have hjb : j < bytesN m := by unfold bytesN; omega
    rw [List.getElem?_map, List.getElem?_range hjb, Option.map_some, hu, hg, List.getElem?_eq_getElem hj]
  · rw [List.getElem?_eq_none (by omega), List.getElem?_eq_none (by rw [pack_len, unpack_len]; unfold bytesN; omega)]
theorem pack_ok (bs : List Bool) : OkB (pack bs) bs.length := by
  refine ⟨by omega, by rw [pack_len]; unfold bytesN; omega, ?_⟩
  intro hu
  have hj : bs.length / 8 < bytesN bs.length := by unfold bytesN; omega
  have e : (pack bs).length - 1 = bs.length / 8 := by rw [pack_len]; unfold bytesN; omega
  have h := byteAt_low bs
  rw [e, pack, packTo_at _ _ _ hj]
  have e2 : (8 - (bs.length : Int) % 8).toNat = 8 - bs.length % 8 := by omega
  rw [e2]
  have : ((byteAt bs (bs.length / 8) % 2 ^ (8 - bs.length % 8) : Nat) : Int) = ((0 : Nat) : Int) := by rw [h]
  simpa using this
theorem packTo_snoc0 (t : Nat) (xs : List Bool) : packTo t (xs ++ [false]) = packTo t xs := by
  unfold packTo
  apply List.map_congr_left
  intro j _
  rw [byteAt_snoc]; simp
theorem packTo_snoc1 (t : Nat) (xs : List Bool) (_h : xs.length / 8 < t) : packTo t (xs ++ [true]) = (packTo t xs).set (xs.length / 8) ((byteAt xs (xs.length / 8) + 2 ^ (7 - xs.length % 8) : Nat) : Int) := by
  apply List.ext_getElem?
  intro j
  rw [List.getElem?_set]
  by_cases hj : j < t
  · unfold packTo
    rw [List.getElem?_map, List.getElem?_range hj, Option.map_some, List.length_map, List.length_range, byteAt_snoc, List.getElem?_map, List.getElem?_range hj, Option.map_some]
    by_cases e : xs.length / 8 = j
    · subst e; simp [hj]
    · rw [if_neg (fun h => e h.symm), if_neg e]; simp
  · rw [List.getElem?_eq_none (by rw [packTo_len]; omega), List.getElem?_eq_none (by rw [packTo_len]; omega), packTo_len]
    split
    · omega
    · rfl
/-- The bit that is set was not. -/
theorem or_bit (xs : List Bool) : bits BinOp.or IntKind.u8 (byteAt xs (xs.length / 8) : Int) (((2 : Nat) ^ (7 - xs.length % 8) : Nat) : Int) = ((byteAt xs (xs.length / 8) + 2 ^ (7 - xs.length % 8) : Nat) : Int) := by
  have h := byteAt_low xs
  have hlt := byteAt_lt xs (xs.length / 8)
  have hp : (2 : Nat) ^ (7 - xs.length % 8) ≤ 2 ^ 7 := Nat.pow_le_pow_right (by decide) (by omega)
  have hp2 : (2 : Nat) ^ (7 - xs.length % 8) < 2 ^ (8 - xs.length % 8) := Nat.pow_lt_pow_right (by decide) (by omega)
  rw [u8_or_nat _ _ hlt (by omega), nat_join _ _ _ h hp2]
theorem shr128 (t : Nat) (h : t < 8) : (128 : Int) / 2 ^ t = ((2 ^ (7 - t) : Nat) : Int) := by
  match t, h with
  | 0, _ => decide
  | 1, _ => decide
  | 2, _ => decide
  | 3, _ => decide
  | 4, _ => decide
  | 5, _ => decide
  | 6, _ => decide
  | 7, _ => decide
theorem packTo_zero (t : Nat) (bs : List Bool) (_h : bytesN bs.length ≤ t) : (pack bs) ++ List.replicate (t - bytesN bs.length) 0 = packTo t bs := by
  apply List.ext_getElem?
  intro j
  by_cases h1 : j < bytesN bs.length
  · rw [List.getElem?_append_left (by rw [pack_len]; exact h1)]
    unfold pack packTo
    rw [List.getElem?_map, List.getElem?_map, List.getElem?_range h1, List.getElem?_range (by omega)]
  · rw [List.getElem?_append_right (by rw [pack_len]; omega), pack_len]
    by_cases h2 : j < t
    · rw [List.getElem?_replicate, if_pos (by omega)]
      unfold packTo
      rw [List.getElem?_map, List.getElem?_range h2, Option.map_some, byteAt_past bs j (by unfold bytesN at h1; omega)]
      rfl
    · rw [List.getElem?_replicate, if_neg (by omega), List.getElem?_eq_none (by rw [packTo_len]; omega)]
theorem take_ofVal (u m j : Nat) (h : j < m) : (ofVal u m).take (j + 1) = (ofVal u m).take j ++ [decide (u / 2 ^ (m - 1 - j) % 2 = 1)] := by
  rw [List.take_succ_eq_append_getElem (by rw [ofVal_len]; exact h)]
  have := ofVal_at u m j h
  rw [List.getElem?_eq_getElem (by rw [ofVal_len]; exact h)] at this
  simp only [Option.some.injEq] at this
  rw [this]
theorem and_one (u t : Nat) (h : u < 18446744073709551616) : bits BinOp.and IntKind.u64 ((u : Int) / 2 ^ t) 1 = ((u / 2 ^ t % 2 : Nat) : Int) := by
  have e0 : ((u : Int) / 2 ^ t) = ((u / 2 ^ t : Nat) : Int) := by simp
  have hle : u / 2 ^ t ≤ u := Nat.div_le_self _ _
  rw [e0]
  generalize u / 2 ^ t = q at hle
  have := bits_mask .u64 64 (by decide) (fun n a b => by rw [IntKind.wrap_u64]; omega) 1 (by decide) (q : Int) (by omega) (by omega)
  simpa using this
/-- What Pull answers of bits that are right: the number, the error. -/
def pullE (bs : List Bool) (p k : Int) : Int := if k < 0 ∨ 64 < k ∨ p < 0 then 1 else if (bs.length : Int) - k < p then 3 else 0
def pullV (bs : List Bool) (p k : Int) : Int := if k < 0 ∨ 64 < k ∨ p < 0 then 0 else if (bs.length : Int) - k < p then 0 else (val ((bs.drop p.toNat).take k.toNat) : Nat)
theorem pull_in (bs : List Bool) (p k : Int) (h : 0 ≤ k ∧ k ≤ 64 ∧ 0 ≤ p ∧ p + k ≤ bs.length) : pullE bs p k = 0 ∧ pullV bs p k = (val ((bs.drop p.toNat).take k.toNat) : Nat) := by
  unfold pullE pullV
  rw [if_neg (by omega), if_neg (by omega), if_neg (by omega), if_neg (by omega)]
  exact ⟨rfl, rfl⟩
theorem pull_out (bs : List Bool) (p k : Int) (h : ¬ (0 ≤ k ∧ k ≤ 64 ∧ 0 ≤ p ∧ p + k ≤ bs.length)) : pullE bs p k ≠ 0 ∧ pullV bs p k = 0 := by
  unfold pullE pullV
  by_cases h1 : k < 0 ∨ 64 < k ∨ p < 0
  · rw [if_pos h1, if_pos h1]; exact ⟨by decide, rfl⟩
  · rw [if_neg h1, if_neg h1, if_pos (by omega), if_pos (by omega)]; exact ⟨by decide, rfl⟩
theorem val_split (bs : List Bool) (p n m : Nat) (h : p + n + m ≤ bs.length) : val ((bs.drop p).take (n + m)) = val ((bs.drop p).take n) * 2 ^ m + val ((bs.drop (p + n)).take m) := by
  rw [List.take_add, val_app, List.drop_drop]
  congr 2
  rw [List.length_take, List.length_drop, Nat.min_eq_left (by omega)]
theorem or_join (B C m V : Nat) (hC : C < 2 ^ m) (hV : V = B * 2 ^ m + C) (hlt : V < 18446744073709551616) : bits BinOp.or IntKind.u64 (IntKind.u64.wrap ((B : Int) * 2 ^ m)) (C : Int) = (V : Int) := by
  have e : ((B : Int) * 2 ^ m) = ((B * 2 ^ m : Nat) : Int) := by simp
  rw [e, IntKind.wrap_u64, Int.emod_eq_of_lt (by omega) (by omega), u64_or_nat _ _ (by omega) (by omega), nat_join m _ _ (by simp) hC, hV]
/-- The bits behind the last one, one by one. -/
theorem low_bits : ∀ (c : Fin 256) (r : Fin 9), (c.val % 2 ^ (8 - r.val) = 0) ↔ ∀ t : Fin 8, r.val ≤ t.val → c.val / 2 ^ (7 - t.val) % 2 = 0 := by decide +kernel
/-- A bit of bytes. -/
def bitZ (l : List Int) (i : Nat) : Int := l.getD (i / 8) 0 / 2 ^ (7 - i % 8) % 2
theorem okB_iff (l : List Int) (n : Nat) (hb : ∀ x ∈ l, 0 ≤ x ∧ x ≤ 255) (hl : n ≤ 8 * l.length) (hl2 : 8 * l.length ≤ n + 7) : OkB l n ↔ ∀ i, n ≤ i → i < 8 * l.length → bitZ l i = 0 := by
  unfold OkB
  by_cases h0 : n % 8 = 0
  · constructor
    · intro _ i h1 h2; omega
    · intro _; exact ⟨by omega, by omega, fun h => by omega⟩
  · have hpos : 0 < l.length := by omega
    have hlast := hb (l[l.length - 1]'(by omega)) (List.getElem_mem _)
    have hg : l.getD (l.length - 1) 0 = l[l.length - 1]'(by omega) := by simp [List.getD_eq_getElem?_getD, List.getElem?_eq_getElem (show l.length - 1 < l.length by omega)]
    rw [← hg] at hlast
    obtain ⟨c, hc⟩ := Int.eq_ofNat_of_zero_le hlast.1
    have hc8 : c < 256 := by omega
    have key := low_bits ⟨c, hc8⟩ ⟨n % 8, by omega⟩
    simp only at key
    have e : (8 - (n : Int) % 8).toNat = 8 - n % 8 := by omega
    have hcast : ((c : Int) % 2 ^ (8 - n % 8) = 0) ↔ c % 2 ^ (8 - n % 8) = 0 := by
      have : ((c : Int) % 2 ^ (8 - n % 8)) = ((c % 2 ^ (8 - n % 8) : Nat) : Int) := by simp
      rw [this]; omega
    rw [hc, e, hcast, key]
    constructor
    · rintro ⟨_, _, h3⟩ i h1 h2
      have h4 := h3 (by omega) ⟨i % 8, by omega⟩ (by simp only; omega)
      simp only at h4
      unfold bitZ
      rw [show i / 8 = l.length - 1 by omega, hc]
      have : ((c : Int) / 2 ^ (7 - i % 8) % 2) = ((c / 2 ^ (7 - i % 8) % 2 : Nat) : Int) := by simp
      rw [this, h4]; rfl
    · intro h
      refine ⟨by omega, by omega, fun _ t ht => ?_⟩
      have h4 := h (8 * (l.length - 1) + t.val) (by omega) (by have := t.isLt; omega)
      unfold bitZ at h4
      rw [show (8 * (l.length - 1) + t.val) / 8 = l.length - 1 by have := t.isLt; omega, show (8 * (l.length - 1) + t.val) % 8 = t.val by have := t.isLt; omega, hc] at h4
      have : ((c : Int) / 2 ^ (7 - t.val) % 2) = ((c / 2 ^ (7 - t.val) % 2 : Nat) : Int) := by simp
      rw [this] at h4; omega
theorem val8 (bs : List Bool) (k : Nat) (h : 8 * k + 8 ≤ bs.length) : val ((bs.drop (8 * k)).take 8) = byteAt bs k := by
  have e0 : val ((bs.drop (8 * k)).take 0) = 0 := by simp [val]
  have e1 := val_take bs (8 * k) 0 (by omega)
  have e2 := val_take bs (8 * k) 1 (by omega)
  have e3 := val_take bs (8 * k) 2 (by omega)
  have e4 := val_take bs (8 * k) 3 (by omega)
  have e5 := val_take bs (8 * k) 4 (by omega)
  have e6 := val_take bs (8 * k) 5 (by omega)
  have e7 := val_take bs (8 * k) 6 (by omega)
  have e8 := val_take bs (8 * k) 7 (by omega)
  simp only [Nat.zero_add, Nat.reduceAdd, Nat.add_zero] at e1 e2 e3 e4 e5 e6 e7 e8
  unfold byteAt byte8
  rw [e8, e7, e6, e5, e4, e3, e2, e1, e0]
  omega
theorem bit_pad (bs : List Bool) (j i : Nat) : bit (bs ++ List.replicate j false) i = bit bs i := by
  by_cases h : i < bs.length
  · exact bit_app_old bs _ i h
  · rw [bit_past bs i (by omega)]
    unfold bit
    rw [List.getD_eq_getElem?_getD, List.getElem?_append_right (by omega), List.getElem?_replicate]
    split <;> rfl
theorem byteAt_pad (bs : List Bool) (j k : Nat) : byteAt (bs ++ List.replicate j false) k = byteAt bs k := by
  unfold byteAt; simp only [bit_pad]
theorem packTo_succ (k : Nat) (bs : List Bool) : packTo (k + 1) bs = packTo k bs ++ [(byteAt bs k : Int)] := by
  unfold packTo; rw [List.range_succ, List.map_append]; rfl
/-- One step of reading bits. -/
theorem or_and (V c t : Nat) (hV : V < 9223372036854775808) (hc : c < 256) :
    bits BinOp.or IntKind.u64 ((V : Int) * 2) (IntKind.u64.wrap (bits BinOp.and IntKind.u8 ((c : Int) / 2 ^ t) 1)) = ((2 * V + c / 2 ^ t % 2 : Nat) : Int) := by
  have e0 : ((c : Int) / 2 ^ t) = ((c / 2 ^ t : Nat) : Int) := by simp
  have hle : c / 2 ^ t ≤ c := Nat.div_le_self _ _
  rw [e0]
  generalize c / 2 ^ t = q at hle
  have e1 : bits BinOp.and IntKind.u8 (q : Int) 1 = ((q % 2 : Nat) : Int) := by
    have := bits_mask .u8 8 (by decide) wraps_u8 1 (by decide) (q : Int) (by omega) (by omega)
    simpa using this
  rw [e1, IntKind.wrap_u64]
  generalize hx : q % 2 = x
  have hx2 : x < 2 := by omega
  have e2 : ((x : Int) % 18446744073709551616) = (x : Int) := by omega
  have e3 : ((V : Int) * 2) = ((V * 2 : Nat) : Int) := by simp
  rw [e2, e3, u64_or_nat _ _ (by omega) (by omega), nat_join 1 _ _ (by omega) (by omega)]
  omega
end P
end Go.Proofs.YtfjbdgkdkbcnhaaDoor
/- Words and laws of my own for walks over bytes: rows that are read, rows that the call owns, one append. -/
namespace Go.Proofs.YtfjbdgkdkbcnhaaDoor
open Go.RowKit
set_option linter.unusedVariables false

theorem hide {p : Prop} (h : p) : Hid p := h
theorem Below.next {w w1 w2 : World} (h1 : Below w.heap.size w w1) (h2 : Below w1.heap.size w1 w2) : Below w.heap.size w w2 := h1.trans (h2.mono h1.size)
theorem ret_int {k : IntKind} {a b : Int} (h : a = b) : Ending.returned (.int k a) = .returned (.int k b) := by rw [h]
theorem Tryd.info5 : (Tryd.prog.info? 5).map (fun i => (i.zero, i.size, i.bytes)) = some (some (.int .u8 0), 1, 1) := by kernel_rfl

/-- Bytes that the call itself made. -/
abbrev OwnB (w : World) (base : Nat) (v : Value) (l : List Int) : Prop := w.ownsRow base 5 1 v l.length (l.map (Value.int .u8))

/-- A slice of integers that can be read: nothing is asked of an address where there is no element. -/
def RowK (k : IntKind) (w : World) (v : Value) (l : List Int) : Prop :=
  ∃ a cap, v = .slice a l.length cap ∧ (l.length ≤ cap ∧ cap ≤ maxLen ∧ (a = none → cap = 0)) ∧ (l = [] ∨ ∃ b off, a = some ⟨b, off, none⟩ ∧ b < w.heap.size ∧ ∀ j, j < l.length → w.cell? ⟨b, off + j, none⟩ = some (.int k (l.getD j 0)))
abbrev RowB (w : World) (v : Value) (l : List Int) : Prop := RowK .u8 w v l

theorem RowK.below {k : IntKind} {w w' : World} {B : Nat} {v : Value} {l : List Int} (h : RowK k w v l) (hb : Below B w w') (hB : w.heap.size ≤ B) : RowK k w' v l := by
  obtain ⟨a, cap, rfl, hl, h⟩ := h
  refine ⟨a, cap, rfl, hl, ?_⟩
  rcases h with h | ⟨b, off, rfl, hlt, hc⟩
  · exact .inl h
  · exact .inr ⟨b, off, rfl, Nat.lt_of_lt_of_le hlt hb.size, fun j hj => (hb.cell (p := ⟨b, off + j, none⟩) (Nat.lt_of_lt_of_le hlt hB)).trans (hc j hj)⟩

theorem RowK.front {k : IntKind} {w : World} {b off len cap : Nat} {l : List Int} (h : RowK k w (.slice (some ⟨b, off, none⟩) len cap) l) (n : Nat) (hn : n ≤ l.length) : RowK k w (.slice (some ⟨b, off, none⟩) n cap) (l.take n) := by
  obtain ⟨a, c, hv, ⟨h1, h2, h3⟩, hcase⟩ := h
  simp only [Value.slice.injEq] at hv
  obtain ⟨rfl, rfl, rfl⟩ := hv
  have hl : (l.take n).length = n := by simp; omega
  refine ⟨_, cap, by rw [hl], ⟨by omega, h2, h3⟩, ?_⟩
  rcases hcase with h | ⟨b', off', he, hlt, hc⟩
  · left; rw [h]; simp
  · simp at he
    obtain ⟨rfl, rfl⟩ := he
    refine .inr ⟨b, off, rfl, hlt, fun j hj => ?_⟩
    rw [hl] at hj
    rw [hc j (by omega)]
    simp [List.getD_eq_getElem?_getD, hj]

theorem OwnB.row {w : World} {base : Nat} {v : Value} {l : List Int} (h : OwnB w base v l) : RowB w v l := by
  obtain ⟨h1, h2⟩ := h
  rcases h2 with ⟨rfl, h0⟩ | ⟨g, cap, cur, rfl, hb, hg, hn, hm, hs, ht⟩
  · have : l = [] := List.length_eq_zero_iff.1 h0
    subst this
    exact ⟨none, 0, rfl, ⟨by simp, by simp, fun _ => rfl⟩, .inl rfl⟩
  · refine ⟨_, cap, rfl, ⟨hn, hm, fun h => by cases h⟩, ?_⟩
    rcases l with _ | ⟨x, l⟩
    · exact .inl rfl
    · refine .inr ⟨g, 0, rfl, (Array.getElem?_eq_some_iff.1 hg).1, fun j hj => ?_⟩
      have hj' : j < cur.size := by omega
      have e : cur[j]? = some (.int .u8 ((x :: l).getD j 0)) := by
        have h3 : (cur.toList.take ((x :: l).length * 1))[j]? = ((x :: l).map (Value.int .u8))[j]? := by rw [ht]
        rw [List.getElem?_take, if_pos (by omega), List.getElem?_map] at h3
        rw [← Array.getElem?_toList, h3]
        simp [List.getElem?_eq_getElem hj, List.getD_eq_getElem?_getD]
      simp [World.cell?, hg, e]

theorem OwnB.base {w : World} {b b' : Nat} {v : Value} {l : List Int} (h : OwnB w b v l) (hb : b' ≤ b) : OwnB w b' v l := by
  obtain ⟨h1, h2⟩ := h
  refine ⟨h1, ?_⟩
  rcases h2 with h2 | ⟨g, cap, cur, rfl, hg, r⟩
  · exact .inl h2
  · exact .inr ⟨g, cap, cur, rfl, Nat.le_trans hb hg, r⟩

/-- What is owned stays owned while nothing below the heap's size turns. -/
theorem OwnB.below {w w' : World} {base B : Nat} {v : Value} {l : List Int} (h : OwnB w base v l) (hb : Below B w w') (hB : w.heap.size ≤ B) : OwnB w' base v l := by
  obtain ⟨h1, h2⟩ := h
  refine ⟨h1, ?_⟩
  rcases h2 with h2 | ⟨g, cap, cur, rfl, hg, hh, r⟩
  · exact .inl h2
  · exact .inr ⟨g, cap, cur, rfl, hg, by rw [hb.block g (Nat.lt_of_lt_of_le (Array.getElem?_eq_some_iff.1 hh).1 hB)]; exact hh, r⟩

/-- 'append(b, x)' of one byte to a row of the call's own. -/
theorem wp_app1 {ops : Array Oper} {rest : List Oper} {o : Oper} {a : Act} {Q : Exit → Act → World → Prop} (hgd : o.guard = none) (s x : Operand)
    (ho : o.op = .call { callee := .builtin .append, args := #[s, x], argTypes := #[23, 23] })
    (B base : Nat) (w0 w : World) (v : Value) (acc : List Int) (y : Int) (hown : OwnB w base v acc) (hb : Below B w0 w) (hB : B ≤ base) (hs : a.eval s = v)
    (hx : a.eval x = .slice (some ⟨w.heap.size, 0, none⟩) 1 1) (hlen : acc.length + 1 ≤ 140737488355328) (hbase : base ≤ w.heap.size)
    (h : ∀ v' w', OwnB w' base v' (acc ++ [y]) → Below B w0 w' → w.heap.size < w'.heap.size → w.grownBy w' v.ownBlock → wpList Tryd.prog ops Q rest (a.put o.dst v') w') :
    wpList Tryd.prog ops Q (o :: rest) a (w.alloc (.cells #[.int .u8 y] 5)) := by
  obtain ⟨i0, hi, hz0, hz1, hz2⟩ := info_parts Tryd.info5
  refine wpList_append_own _ hgd s x 23 ho base 5 i0 (.int .u8 0) 1 1 Tryd.underlying23 hi hz0 hz1 hz2 rfl (by decide) v _ _ hs (hown.alloc _) ⟨w.heap.size, 0, none⟩ 1 1 [.int .u8 y] hx rfl ?_ ?_ ?_ ?_ ?_ ?_
  · intro j u hj
    match j, hj with
    | 0, hj => simp at hj; subst hj; simp [Addr.add]
  · intro u hu; simp at hu; subst hu; rfl
  · unfold maxLen; omega
  · omega
  · simp; omega
  · intro v' w' ho' hg _
    refine h v' w' ?_ ((hb.alloc (by omega) _).grown hg (by simp; omega) ?_) ?_ ((World.grownBy_alloc w _ _).trans hg)
    · have e1 : (acc ++ [y]).length = acc.length + 1 := by simp
      have e2 : (acc ++ [y]).map (Value.int .u8) = acc.map (Value.int .u8) ++ [.int .u8 y] := by simp
      show w'.ownsRow base 5 1 v' (acc ++ [y]).length ((acc ++ [y]).map (Value.int .u8))
      rw [e1, e2]; exact ho'
    · intro k hk; have := (hown.lt k hk).1; omega
    · have := hg.size; simp at this; omega

/-- A cell that is there stays, behind a call that leaves old memory alone, and behind a new block. -/
theorem keep_cell {w w' : World} {a : Addr} {v : Value} (h : w.cell? a = some v) (hb : Below w.heap.size w w') : w'.cell? a = some v := (hb.cell (World.block_lt_of_cell? w a h)).trans h
theorem keep_alloc {w : World} {a : Addr} {v : Value} (h : w.cell? a = some v) (o : Obj) : (w.alloc o).cell? a = some v := keep_cell h ((Below.refl _ _).alloc (Nat.le_refl _) o)
theorem below_alloc {w w' : World} (h : Below w.heap.size w w') (o : Obj) : Below w.heap.size w (w'.alloc o) := h.alloc h.size o
/-- A struct of two words in a box of the call's own, behind a call that leaves old memory alone. -/
theorem box2 {w w2 : World} {c0 c1 : Value} {t : TypeId} (hb : Below (w.alloc (.cells #[c0, c1] t)).heap.size (w.alloc (.cells #[c0, c1] t)) w2) :
    w2.cell? ⟨w.heap.size, 0, none⟩ = some c0 ∧ w2.cell? ⟨w.heap.size, 1, none⟩ = some c1 ∧ Below w.heap.size w w2 ∧ w.heap.size < w2.heap.size := by
  have h0 := hb.cell (p := ⟨w.heap.size, 0, none⟩) (by simp)
  have h1 := hb.cell (p := ⟨w.heap.size, 1, none⟩) (by simp)
  have hs := hb.size
  refine ⟨h0.trans (by simp), h1.trans (by simp), ((Below.refl _ _).alloc (Nat.le_refl _) _).trans (hb.mono (by simp)), ?_⟩
  simp at hs; omega

/-- 'append(b, x...)' of a row that can be read to a row of the call's own. -/
theorem wp_appRow {ops : Array Oper} {rest : List Oper} {o : Oper} {a : Act} {Q : Exit → Act → World → Prop} (hgd : o.guard = none) (s x : Operand)
    (ho : o.op = .call { callee := .builtin .append, args := #[s, x], argTypes := #[23, 23] })
    (B base : Nat) (w0 w : World) (v vx : Value) (acc l : List Int) (hown : OwnB w base v acc) (hrow : RowB w vx l) (hb : Below B w0 w) (hB : B ≤ base) (hs : a.eval s = v)
    (hx : a.eval x = vx) (hlen : acc.length + l.length ≤ 140737488355328) (hbase : base ≤ w.heap.size)
    (h : ∀ v' w', OwnB w' base v' (acc ++ l) → Below B w0 w' → w.heap.size ≤ w'.heap.size → w.grownBy w' v.ownBlock → wpList Tryd.prog ops Q rest (a.put o.dst v') w') :
    wpList Tryd.prog ops Q (o :: rest) a w := by
  obtain ⟨i0, hi, hz0, hz1, hz2⟩ := info_parts Tryd.info5
  obtain ⟨ao, cap, rfl, ⟨hlc, hcm, hnn⟩, hcase⟩ := hrow
  have go : ∀ ad : Addr, ao = some ad → (∀ j, j < l.length → w.cell? (ad.add j) = some (.int .u8 (l.getD j 0))) → wpList Tryd.prog ops Q (o :: rest) a w := by
    intro ad hao hc
    subst hao
    refine wpList_append_own _ hgd s x 23 ho base 5 i0 (.int .u8 0) 1 1 Tryd.underlying23 hi hz0 hz1 hz2 rfl (by decide) v _ _ hs hown ad l.length cap (l.map (Value.int .u8)) hx (by simp) ?_ ?_ ?_ ?_ hbase ?_
    · intro j u hj
      have hjl : j < l.length := by
        rcases Nat.lt_or_ge j l.length with h | h
        · exact h
        · rw [List.getElem?_eq_none (by simpa using h)] at hj; cases hj
      rw [hc j hjl]
      simp [List.getElem?_eq_getElem hjl] at hj
      subst hj
      simp [List.getD_eq_getElem?_getD, List.getElem?_eq_getElem hjl]
    · intro u hu; obtain ⟨z, _, rfl⟩ := List.mem_map.1 hu; rfl
    · unfold maxLen; omega
    · omega
    · intro v' w' ho' hg _
      refine h v' w' ?_ (hb.grown hg (by omega) ?_) hg.size hg
      · have e1 : (acc ++ l).length = acc.length + l.length := by simp
        have e2 : (acc ++ l).map (Value.int .u8) = acc.map (Value.int .u8) ++ l.map (Value.int .u8) := by simp
        show w'.ownsRow base 5 1 v' (acc ++ l).length ((acc ++ l).map (Value.int .u8))
        rw [e1, e2]; exact ho'
      · intro k hk; have := (hown.lt k hk).1; omega
  rcases hcase with h0 | ⟨b, off, rfl, hbs, hcell⟩
  · subst h0
    cases ao with
    | none =>
      have hcap := hnn rfl
      subst hcap
      refine wpList_append_own_none hgd s x 23 ho base 5 i0 1 Tryd.underlying23 hi v _ _ hs hown hx ?_
      exact h v w (by rw [List.append_nil]; exact hown) hb (Nat.le_refl _) ⟨rfl, rfl, rfl, Nat.le_refl _, fun _ _ _ => rfl⟩
    | some ad => exact go ad rfl (fun j hj => by simp at hj)
  · refine go _ rfl (fun j hj => ?_)
    have ea : (Addr.add ⟨b, off, none⟩ j) = ⟨b, off + j, none⟩ := by
      unfold Addr.add; split
      · rename_i h; subst h; rfl
      · rfl
    rw [ea]; exact hcell j hj

/-- A block that holds just these bytes. -/
def BlkB (w : World) (g : Nat) (l : List Int) : Prop := w.heap[g]? = some (.cells (l.map (Value.int .u8)).toArray 5 (0, 0))
theorem BlkB.cell {w : World} {g : Nat} {l : List Int} (h : BlkB w g l) {j : Nat} (hj : j < l.length) : w.cell? ⟨g, j, none⟩ = some (.int .u8 (l.getD j 0)) := by
  unfold BlkB at h
  simp [World.cell?, h, List.getElem?_eq_getElem hj, List.getD_eq_getElem?_getD]
theorem BlkB.unfrozen {w : World} {g : Nat} {l : List Int} (h : BlkB w g l) (j : Nat) : w.frozen? ⟨g, j, none⟩ = false := by
  unfold BlkB at h
  simp [World.frozen?, h]
theorem BlkB.set {w : World} {g : Nat} {l : List Int} (h : BlkB w g l) (j : Nat) (x : Int) : BlkB (w.setCell ⟨g, j, none⟩ (.int .u8 x)) g (l.set j x) := by
  unfold BlkB at h ⊢
  rw [heap_setCell_same w g j _ _ _ h]
  simp
theorem BlkB.own {w : World} {g base : Nat} {l : List Int} (h : BlkB w g l) (hb : base ≤ g) (hl : l.length ≤ maxLen) : OwnB w base (.slice (some ⟨g, 0, none⟩) l.length l.length) l :=
  ⟨by simp, .inr ⟨g, l.length, _, rfl, hb, h, Nat.le_refl _, hl, by simp, List.take_of_length_le (by simp)⟩⟩
theorem BlkB.lt {w : World} {g : Nat} {l : List Int} (h : BlkB w g l) : g < w.heap.size := (Array.getElem?_eq_some_iff.1 h).1

/-- Of block g alone the two worlds may not be one. -/
structure Only (g : Nat) (w w' : World) : Prop where
  os : w'.os = w.os
  tape : w'.tape = w.tape
  output : w'.output = w.output
  size : w'.heap.size = w.heap.size
  block : ∀ k, k ≠ g → w'.heap[k]? = w.heap[k]?
theorem Only.refl (g : Nat) (w : World) : Only g w w := ⟨rfl, rfl, rfl, rfl, fun _ _ => rfl⟩
theorem Only.drew {g : Nat} {a w : World} (h : Only g a w) : Only g a w.drew := ⟨h.os, h.tape, h.output, h.size, h.block⟩
theorem Only.setCell {g : Nat} {a w : World} (h : Only g a w) (j : Nat) (u : Value) : Only g a (w.setCell ⟨g, j, none⟩ u) :=
  ⟨h.os, h.tape, h.output, by simpa using h.size, fun k hk => (heap_setCell_other w ⟨g, j, none⟩ k u hk).trans (h.block k hk)⟩
theorem Only.cell {g : Nat} {w w' : World} (h : Only g w w') {p : Addr} (hp : p.block ≠ g) : w'.cell? p = w.cell? p := World.cell?_of_block (h.block p.block hp)
theorem Only.frozen {g : Nat} {w w' : World} (h : Only g w w') {p : Addr} (hp : p.block ≠ g) : w'.frozen? p = w.frozen? p := World.frozen?_of_block (h.block p.block hp)
theorem Only.below {g B : Nat} {w w' : World} (h : Only g w w') (hB : B ≤ g) : Below B w w' := ⟨h.os, h.tape, h.output, by rw [h.size]; exact Nat.le_refl _, fun k hk => h.block k (by omega)⟩

/-- An empty row that the call has just made. -/
theorem own_empty (w : World) (base : Nat) (hb : base ≤ w.heap.size) : OwnB (w.alloc (.cells #[] 5)) base (.slice (some ⟨w.heap.size, 0, none⟩) 0 0) [] :=
  World.ownsRow_made w #[] 0 hb (by decide) rfl
end Go.Proofs.YtfjbdgkdkbcnhaaDoor
/- How arguments are opened, and how they stay: laws of my own for the rows' steps. -/
namespace Go.Proofs.YtfjbdgkdkbcnhaaDoor
open Go.ChangeShapes Go.WideShapes Go.ChangeAt Go.RowKit Go.Joins
set_option linter.unusedVariables false

theorem own : ownKnob Tryd.prog.godebug = none := by kernel_rfl
theorem laidOut : laidOutB Tryd.prog = true := by kernel_rfl

/-- Bytes. -/
def Byt (l : List Int) : Prop := ∀ x ∈ l, 0 ≤ x ∧ x ≤ 255
theorem Byt.at {l : List Int} (h : Byt l) (j : Nat) : 0 ≤ l.getD j 0 ∧ l.getD j 0 ≤ 255 := by
  by_cases hj : j < l.length
  · have := h l[j] (List.getElem_mem hj)
    simpa [List.getD_eq_getElem?_getD, List.getElem?_eq_getElem hj] using this
  · simp [List.getD_eq_getElem?_getD, List.getElem?_eq_none (Nat.le_of_not_lt hj)]

/-- A slice of integers that came in, opened. -/
theorem open_row {H : Type} {enc : TypeId × Value → H} {W : World} {t e : TypeId} {k : IntKind} {a : Option Addr} {len cap : Nat} {d : DataW H} {p : List MemPlace} (ht : Tryd.prog.underlying t = some (.slice e)) (he : Tryd.prog.underlying e = some (.int k)) (hc : Tryd.prog.cellsOf e = 1)
    (h : ∃ fuel, DataW.trod enc Tryd.prog W 0 (fun _ => true) true fuel t [.slice a len cap] = some (d, p)) :
    ∃ l : List Int, RowK k W (.slice a len cap) l ∧ (∀ n ∈ l, (Lit.int k n).wf = true) ∧ (d = .nil ∧ l = [] ∨ ∃ elems spare, d = .slice elems spare ∧ elems.length = l.length) := by
  obtain ⟨fuel, hf⟩ := h
  rcases open_ints ht he hc hf with ⟨hcs, hx⟩ | ⟨x, l, c, zs, hcs, _, hl, hm, hz, hx, hcell, hwz⟩
  · simp at hcs hx
    obtain ⟨rfl, rfl, rfl⟩ := hcs
    exact ⟨[], ⟨none, 0, rfl, ⟨by simp, by simp, fun _ => rfl⟩, .inl rfl⟩, by simp, .inl ⟨hx.1, rfl⟩⟩
  · simp at hcs hx hz
    obtain ⟨rfl, rfl, rfl⟩ := hcs
    have hlen : (zs.take len).length = len := by simp; omega
    refine ⟨zs.take len, ⟨some x, cap, by rw [hlen], ⟨by rw [hlen]; omega, hm, fun h => by cases h⟩, ?_⟩, fun n hn => hwz n (List.mem_of_mem_take hn), .inr ⟨_, _, hx.1, by simp [lits]⟩⟩
    rcases Nat.eq_zero_or_pos len with h0 | h0
    · exact .inl (by rw [h0]; rfl)
    · right
      obtain ⟨b, off, spot⟩ := x
      have h1 := hcell 0 (by omega)
      have hs : spot = none := by simpa [Addr.add] using World.cell?_spot h1
      subst hs
      refine ⟨b, off, rfl, World.block_lt_of_cell? W _ h1, fun j hj => ?_⟩
      rw [hlen] at hj
      have h2 := hcell j (by omega)
      have ea : (Addr.add ⟨b, off, none⟩ j) = ⟨b, off + j, none⟩ := by
        unfold Addr.add; split
        · rename_i h; subst h; rfl
        · rfl
      rw [ea] at h2
      rw [h2]
      simp [List.getD_eq_getElem?_getD, hj]

theorem wf_bytes {l : List Int} (h : ∀ n ∈ l, (Lit.int .u8 n).wf = true) : Byt l := fun x hx => bounds_u8 (h x hx)
theorem cells5 : Tryd.prog.cellsOf 5 = 1 := by kernel_rfl
theorem bytes5 : Tryd.prog.bytesOf 5 = 1 := by kernel_rfl

/-- The reach of a slice that stands itself among the arguments. -/
theorem row_reach {H : Type} {ts : List TypeId} {ds : List (DataW H)} (hsz : (DataW.weightsEach Tryd.prog ts ds).all (· ≤ reachBytes) = true) {j : Nat} {d : DataW H} {t e : TypeId} {l : List Int} (ht : ts[j]? = some t) (hd : ds[j]? = some d)
    (hu : Tryd.prog.underlying t = some (.slice e)) (h : d = .nil ∧ l = [] ∨ ∃ elems spare, d = .slice elems spare ∧ elems.length = l.length) : l.length * Tryd.prog.bytesOf e ≤ 140737488351232 := by
  rcases h with ⟨_, rfl⟩ | ⟨el, sp, rfl, hl⟩
  · simp
  · have := sized_slice hsz ht hd hu
    have h2 : l.length * Tryd.prog.bytesOf e ≤ (el.length + sp.length) * Tryd.prog.bytesOf e := Nat.mul_le_mul_right _ (by omega)
    have h3 : reachBytes = 140737488351232 := rfl
    omega

theorem bulk_pos {H : Type} (d : DataW H) : 1 ≤ Rows.uptoBulk d := by
  cases d with
  | lit x => cases x <;> simp [Rows.uptoBulk]
  | _ => simp [Rows.uptoBulk]
theorem bulk_len {H : Type} (l : List (DataW H)) : l.length ≤ Rows.uptoBulkAll l := by
  induction l with
  | nil => simp [Rows.uptoBulkAll]
  | cons d l ih => have := bulk_pos d; simp [Rows.uptoBulkAll]; omega
theorem bulk_mem {H : Type} {ds : List (DataW H)} {d : DataW H} (h : d ∈ ds) : Rows.uptoBulk d ≤ Rows.uptoBulkAll ds := by
  induction ds with
  | nil => cases h
  | cons x l ih =>
    simp only [Rows.uptoBulkAll]
    rcases List.mem_cons.1 h with rfl | h
    · omega
    · have := ih h; omega
theorem bulk_small {H : Type} {ds : List (DataW H)} (h : Rows.uptoSmall H ds = true) : Rows.uptoBulkAll ds ≤ 1048576 := of_decide_eq_true h
/-- How many bytes the second form lets a slice have. -/
theorem bulk_row {H : Type} {ds : List (DataW H)} (hk : Rows.uptoSmall H ds = true) {d : DataW H} {l : List Int} (hd : d ∈ ds) (h : d = .nil ∧ l = [] ∨ ∃ elems spare, d = .slice elems spare ∧ elems.length = l.length) : l.length ≤ 1048576 := by
  rcases h with ⟨_, rfl⟩ | ⟨el, sp, rfl, hl⟩
  · simp
  · have h1 := bulk_mem hd
    have h2 := bulk_small hk
    have h3 := bulk_len el
    simp only [Rows.uptoBulk] at h1
    omega
theorem bulk_bits {H : Type} {ds : List (DataW H)} (hk : Rows.uptoSmall H ds = true) {d : DataW H} {l : List Int} {n : Int} {es sp : List (DataW H)} (hd : d ∈ ds)
    (h : (d = .agg [.nil, .lit (.int .i64 n)] ∧ l = []) ∨ (d = .agg [.slice es sp, .lit (.int .i64 n)] ∧ es.length = l.length)) : l.length ≤ 1048576 := by
  rcases h with ⟨_, rfl⟩ | ⟨rfl, hl⟩
  · simp
  · have h1 := bulk_mem hd
    have h2 := bulk_small hk
    have h3 := bulk_len es
    simp only [Rows.uptoBulk, Rows.uptoBulkAll] at h1
    omega
theorem cells43 : Tryd.prog.cellsOf 43 = 2 := by kernel_rfl
set_option maxRecDepth 100000 in
/-- Bits that came in, opened. -/
theorem open_bits {H : Type} {enc : TypeId × Value → H} {W : World} {base : Nat} {v : Value} {d : DataW H} {p : List MemPlace} (hv : Value.okWide Tryd.prog W .any base 43 v) (h : DataW.Trod enc Tryd.prog W 0 (fun _ => true) true 43 v d p)
    {ts : List TypeId} {ds : List (DataW H)} (hsz : (DataW.weightsEach Tryd.prog ts ds).all (· ≤ reachBytes) = true) {j : Nat} (ht : ts[j]? = some 43) (hd : ds[j]? = some d) :
    ∃ (y : Value) (l : List Int) (n : Int), v = .agg #[y, .int .i64 n] ∧ RowB W y l ∧ Byt l ∧ l.length ≤ 140737488351232 ∧ (-9223372036854775808 ≤ n ∧ n ≤ 9223372036854775807) ∧
      ∃ (es : List (DataW H)) (sp : List (DataW H)), (d = .agg [.nil, .lit (.int .i64 n)] ∧ l = []) ∨ (d = .agg [.slice es sp, .lit (.int .i64 n)] ∧ es.length = l.length) := by
  obtain ⟨c0, c1, y0, y1, m, rfl, rfl, rfl, hy0, hy1⟩ := open_agg2 Tryd.underlying43 (by kernel_rfl) cells43 hv h
  obtain ⟨n, e1, hn, wn⟩ := DataW.trod_int Tryd.underlying3 hy1
  simp at e1
  subst e1
  rcases open_ints Tryd.underlying23 Tryd.underlying5 cells5 hy0 with ⟨hcs, hx⟩ | ⟨x, l', c', zs, hcs, _⟩
  · simp at hcs
    subst hcs
    refine ⟨_, [], n, rfl, ⟨none, 0, rfl, ⟨by simp, by simp, fun _ => rfl⟩, .inl rfl⟩, (fun x hx => by cases hx), by simp, bounds_i64 wn, [], [], .inl ⟨?_, rfl⟩⟩
    rw [hx, hn]
  · simp at hcs
    subst hcs
    have h3 : ∃ fuel, DataW.trod enc Tryd.prog W 0 (fun _ => true) true fuel 23 [.slice (some x) l' c'] = some (y0.1, y0.2) := ⟨m, hy0⟩
    obtain ⟨l, row, wf, sh⟩ := open_row Tryd.underlying23 Tryd.underlying5 cells5 h3
    rcases sh with ⟨hd0, hl0⟩ | ⟨es, sp, hd0, hl0⟩
    · refine ⟨_, l, n, rfl, row, wf_bytes wf, by simp [hl0], bounds_i64 wn, [], [], .inl ⟨?_, hl0⟩⟩
      rw [hd0, hn]
    · have hw := List.all_eq_true.1 hsz _ (DataW.weights_mem_each ht hd ((es.length + sp.length) * Tryd.prog.bytesOf 5) (by rw [hd0]; simp [DataW.weights, DataW.weightsEach, Tryd.underlying43, Tryd.underlying23]))
      simp [bytes5] at hw
      have h4 : reachBytes = 140737488351232 := rfl
      refine ⟨_, l, n, rfl, row, wf_bytes wf, by omega, bounds_i64 wn, es, sp, .inr ⟨?_, hl0⟩⟩
      rw [hd0, hn]
end Go.Proofs.YtfjbdgkdkbcnhaaDoor
/- What bits.bytesFor, bits.isWidth, bits.fits and bits.Check answer. -/
namespace Go.Proofs.YtfjbdgkdkbcnhaaDoor
open Go.RowKit
set_option linter.unusedVariables false

theorem bytesFor_any (n : Int) (w : World) (h0 : 0 ≤ n) (h1 : n ≤ 9223372036854775807) :
    Calls Tryd.prog 60 #[.int .i64 n] w fun e w' => e = .returned (.int .i64 ((n + 7) / 8)) ∧ w' = w := by
  by_cases h : n % 8 = 0
  · have hb : (n % 8 == 0) = true := by simp [h]
    go_enter Tryd.func60, Tryd.ntmps60
    go_wp2
    go_ret
    exact ⟨ret_int (by omega), rfl⟩
  · have hb : (n % 8 == 0) = false := by simp [h]
    go_enter Tryd.func60, Tryd.ntmps60
    go_wp2
    go_ret
    exact ⟨ret_int (by omega), rfl⟩

theorem isWidth_yes (n : Int) (w : World) (h0 : 0 ≤ n) (h1 : n ≤ 64) : Calls Tryd.prog 67 #[.int .i64 n] w fun e w' => e = .returned (.bool true) ∧ w' = w := by
  go_enter Tryd.func67, Tryd.ntmps67
  go_wp2
  go_ret
  exact ⟨rfl, rfl⟩
theorem isWidth_no (n : Int) (w : World) (h : n < 0 ∨ 64 < n) : Calls Tryd.prog 67 #[.int .i64 n] w fun e w' => e = .returned (.bool false) ∧ w' = w := by
  rcases h with h | h
  · have hd : decide (0 ≤ n) = false := by simp; omega
    go_enter Tryd.func67, Tryd.ntmps67
    go_wp2
    go_ret
    exact ⟨rfl, rfl⟩
  · have hd : decide (n ≤ 64) = false := by simp; omega
    go_enter Tryd.func67, Tryd.ntmps67
    go_wp2
    go_ret
    exact ⟨rfl, rfl⟩
/-- v is below 2^n. -/
def fitsB (v n : Int) : Bool := decide (v < 2 ^ n.toNat)
theorem div_pow_zero (v : Int) (k : Nat) (h0 : 0 ≤ v) : (v / 2 ^ k = 0) ↔ v < 2 ^ k := by
  have hp : (0 : Int) < 2 ^ k := Int.pow_pos (by decide)
  constructor
  · intro h
    have := Int.lt_ediv_add_one_mul_self v hp
    rw [h] at this; simpa using this
  · intro h; exact Int.ediv_eq_zero_of_lt h0 h
theorem fits_any (v n : Int) (w : World) (h0 : 0 ≤ v) (h1 : v ≤ 18446744073709551615) (n0 : 0 ≤ n) (n1 : n ≤ 64) : Calls Tryd.prog 68 #[.int .u64 v, .int .i64 n] w fun e w' => e = .returned (.bool (fitsB v n)) ∧ w' = w := by
  by_cases h : n = 64
  · subst h
    have e : fitsB v 64 = true := by unfold fitsB; rw [decide_eq_true_eq]; show v < 2 ^ 64; omega
    rw [e]
    go_enter Tryd.func68, Tryd.ntmps68
    go_wp2
    go_ret
    exact ⟨rfl, rfl⟩
  · obtain ⟨k, rfl⟩ := Int.eq_ofNat_of_zero_le n0
    have hd : decide ((64 : Int) ≤ (k : Int)) = false := by simp; omega
    have hk : (k : Int) < 64 := by omega
    go_enter Tryd.func68, Tryd.ntmps68
    go_wp2
    go_ret
    refine ⟨?_, rfl⟩
    have e : (v / 2 ^ k == 0) = fitsB v k := by
      unfold fitsB
      rw [Bool.eq_iff_iff, beq_iff_eq, decide_eq_true_eq]
      exact div_pow_zero v k h0
    rw [← e]; rfl
theorem Below.drewN {B : Nat} {a w : World} (h : Below B a w) (n : Nat) : Below B a (w.drewN n) := ⟨h.os, h.tape, h.output, h.size, h.block⟩
theorem check_neg (v : Value) (l : List Int) (n : Int) (w : World) (hr : RowB w v l) (n0 : -9223372036854775808 ≤ n) (h : n < 0) :
    Calls Tryd.prog 48 #[.agg #[v, .int .i64 n]] w fun e w' => e = .returned (.int .i64 4) ∧ Below w.heap.size w w' := by
  obtain ⟨a, cap, rfl, ⟨hlc, hmax, hnn⟩, hcase⟩ := hr
  go_enter Tryd.func48, Tryd.ntmps48
  go_wp2
  go_quiet (fail)
  go_wp2
  go_ret
  exact ⟨rfl, Below.drewN ((Below.refl _ _).alloc (Nat.le_refl _) _) _⟩
theorem check_len (v : Value) (l : List Int) (n : Int) (w : World) (hr : RowB w v l) (h : 0 ≤ n) (n1 : n ≤ 9223372036854775807) (hl : ¬ (l.length : Int) = (n + 7) / 8) :
    Calls Tryd.prog 48 #[.agg #[v, .int .i64 n]] w fun e w' => e = .returned (.int .i64 4) ∧ Below w.heap.size w w' := by
  obtain ⟨a, cap, rfl, ⟨hlc, hmax, hnn⟩, hcase⟩ := hr
  have hne : ((l.length : Int) != (n + 7) / 8) = true := by rw [bne_iff_ne]; exact hl
  have hd : decide (n < 0) = false := by simp; omega
  clear hl
  go_enter Tryd.func48, Tryd.ntmps48
  go_wp2
  go_quiet ((go_at_call 60; exact Calls.quiet_of_same (bytesFor_any _ _ (by omega) (by omega))))
  go_wp2
  go_ret
  exact ⟨rfl, Below.drewN ((Below.refl _ _).alloc (Nat.le_refl _) _) _⟩
/-- No bits in the last byte are free. -/
theorem check_full (v : Value) (l : List Int) (n : Int) (w : World) (hr : RowB w v l) (h : 0 ≤ n) (n1 : n ≤ 9223372036854775807) (hl : (l.length : Int) = (n + 7) / 8) (hu : n % 8 = 0) :
    Calls Tryd.prog 48 #[.agg #[v, .int .i64 n]] w fun e w' => e = .returned (.int .i64 0) ∧ Below w.heap.size w w' := by
  obtain ⟨a, cap, rfl, ⟨hlc, hmax, hnn⟩, hcase⟩ := hr
  have hne : ((l.length : Int) != (n + 7) / 8) = false := by rw [bne_eq_false_iff_eq]; exact hl
  have hd : decide (n < 0) = false := by simp; omega
  have hd2 : decide (0 < n % 8) = false := by simp; omega
  clear hl
  go_enter Tryd.func48, Tryd.ntmps48
  go_wp2
  go_quiet ((go_at_call 60; exact Calls.quiet_of_same (bytesFor_any _ _ (by omega) (by omega))))
  go_wp2
  go_ret
  exact ⟨rfl, Below.drewN ((Below.refl _ _).alloc (Nat.le_refl _) _) _⟩
/- Some bits in the last byte are free. -/
theorem check_part0 (v : Value) (l : List Int) (n : Int) (w : World) (hr : RowB w v l) (hbt : Byt l) (h : 0 ≤ n) (n1 : n ≤ 9223372036854775807) (hl : (l.length : Int) = (n + 7) / 8) (hu : 0 < n % 8)
    (hq : (l.getD (l.length - 1) 0 * 2 ^ (n % 8).toNat % 256 != 0) = false) :
    Calls Tryd.prog 48 #[.agg #[v, .int .i64 n]] w fun e w' => e = .returned (.int .i64 0) ∧ Below w.heap.size w w' := by
  obtain ⟨a, cap, rfl, ⟨hlc, hmax, hnn⟩, hcase⟩ := hr
  have hne : ((l.length : Int) != (n + 7) / 8) = false := by rw [bne_eq_false_iff_eq]; exact hl
  have hd : decide (n < 0) = false := by simp; omega
  have hpos : 0 < l.length := by omega
  rcases hcase with h0 | ⟨b, off, rfl, hbs, hcell⟩
  · rw [h0] at hpos; simp at hpos
  have hc := hcell (l.length - 1) (by omega)
  have hb := hbt.at (l.length - 1)
  unfold maxLen at hmax
  generalize l.getD (l.length - 1) 0 = c at hc hb hq
  obtain ⟨hb0, hb1⟩ := hb
  have hidx0 : (0 : Int) ≤ (l.length : Int) - 1 := by omega
  have hidx1 : (l.length : Int) - 1 < (l.length : Int) := by omega
  clear hl hcell
  go_enter Tryd.func48, Tryd.ntmps48
  go_wp2
  go_quiet ((go_at_call 60; exact Calls.quiet_of_same (bytesFor_any _ _ (by omega) (by omega))))
  go_wp2
  go_ret
  exact ⟨rfl, Below.drewN ((Below.refl _ _).alloc (Nat.le_refl _) _) _⟩
theorem check_part1 (v : Value) (l : List Int) (n : Int) (w : World) (hr : RowB w v l) (hbt : Byt l) (h : 0 ≤ n) (n1 : n ≤ 9223372036854775807) (hl : (l.length : Int) = (n + 7) / 8) (hu : 0 < n % 8)
    (hq : (l.getD (l.length - 1) 0 * 2 ^ (n % 8).toNat % 256 != 0) = true) :
    Calls Tryd.prog 48 #[.agg #[v, .int .i64 n]] w fun e w' => e = .returned (.int .i64 4) ∧ Below w.heap.size w w' := by
  obtain ⟨a, cap, rfl, ⟨hlc, hmax, hnn⟩, hcase⟩ := hr
  have hne : ((l.length : Int) != (n + 7) / 8) = false := by rw [bne_eq_false_iff_eq]; exact hl
  have hd : decide (n < 0) = false := by simp; omega
  have hpos : 0 < l.length := by omega
  rcases hcase with h0 | ⟨b, off, rfl, hbs, hcell⟩
  · rw [h0] at hpos; simp at hpos
  have hc := hcell (l.length - 1) (by omega)
  have hb := hbt.at (l.length - 1)
  unfold maxLen at hmax
  generalize l.getD (l.length - 1) 0 = c at hc hb hq
  obtain ⟨hb0, hb1⟩ := hb
  have hidx0 : (0 : Int) ≤ (l.length : Int) - 1 := by omega
  have hidx1 : (l.length : Int) - 1 < (l.length : Int) := by omega
  clear hl hcell
  go_enter Tryd.func48, Tryd.ntmps48
  go_wp2
  go_quiet ((go_at_call 60; exact Calls.quiet_of_same (bytesFor_any _ _ (by omega) (by omega))))
  go_wp2
  go_ret
  exact ⟨rfl, Below.drewN ((Below.refl _ _).alloc (Nat.le_refl _) _) _⟩

theorem check_ok (v : Value) (l : List Int) (n : Int) (w : World) (hr : RowB w v l) (hbt : Byt l) (n1 : n ≤ 9223372036854775807) (h : P.OkB l n) :
    Calls Tryd.prog 48 #[.agg #[v, .int .i64 n]] w fun e w' => e = .returned (.int .i64 0) ∧ Below w.heap.size w w' := by
  obtain ⟨h0, hl, hlow⟩ := h
  by_cases hu : n % 8 = 0
  · exact check_full v l n w hr h0 n1 hl hu
  · have hc := hbt.at (l.length - 1)
    exact check_part0 v l n w hr hbt h0 n1 hl (by omega) (by rw [bne_eq_false_iff_eq]; exact (P.shl_zero _ n hc.1 hc.2 (by omega)).2 (hlow (by omega)))
theorem check_bad (v : Value) (l : List Int) (n : Int) (w : World) (hr : RowB w v l) (hbt : Byt l) (n0 : -9223372036854775808 ≤ n) (n1 : n ≤ 9223372036854775807) (h : ¬ P.OkB l n) :
    Calls Tryd.prog 48 #[.agg #[v, .int .i64 n]] w fun e w' => e = .returned (.int .i64 4) ∧ Below w.heap.size w w' := by
  by_cases h0 : n < 0
  · exact check_neg v l n w hr n0 h0
  by_cases hl : (l.length : Int) = (n + 7) / 8
  · by_cases hu : n % 8 = 0
    · exact absurd ⟨by omega, hl, fun h => by omega⟩ h
    · have hc := hbt.at (l.length - 1)
      refine check_part1 v l n w hr hbt (by omega) n1 hl (by omega) ?_
      rw [bne_iff_ne]
      intro hz
      exact h ⟨by omega, hl, fun _ => (P.shl_zero _ n hc.1 hc.2 (by omega)).1 hz⟩
  · exact check_len v l n w hr (by omega) n1 hl
end Go.Proofs.YtfjbdgkdkbcnhaaDoor
/- What bits.Pull answers. -/
namespace Go.Proofs.YtfjbdgkdkbcnhaaDoor
open Go.RowKit
set_option linter.unusedVariables false

theorem pull_bad (v : Value) (l : List Int) (n at' k : Int) (w : World) (hr : RowB w v l) (hbt : Byt l) (n0 : -9223372036854775808 ≤ n) (n1 : n ≤ 9223372036854775807) (hok : ¬ P.OkB l n) :
    Calls Tryd.prog 61 #[.agg #[v, .int .i64 n], .int .i64 at', .int .i64 k] w fun e w' => e = .returned (.tuple #[.int .u64 0, .int .i64 4]) ∧ Below w.heap.size w w' := by
  have hr1 := hr.below ((Below.refl _ _).alloc (Nat.le_refl _) (.cells #[v, .int .i64 n] 43)) (Nat.le_refl _)
  go_enter Tryd.func61, Tryd.ntmps61
  go_wp2_with (go_at_call 48; go_must (refine (check_bad _ l n _ hr1 hbt n0 n1 hok).mono ?_); rintro e w2 ⟨rfl, hb2⟩; obtain ⟨hc0, hc1, hb, hsz⟩ := box2 hb2)
  go_ret2
  exact ⟨rfl, hb⟩
theorem pull_arg (v : Value) (l : List Int) (n at' k : Int) (w : World) (hr : RowB w v l) (hbt : Byt l) (n1 : n ≤ 9223372036854775807) (hok : P.OkB l n) (h : k < 0 ∨ 64 < k ∨ at' < 0) :
    Calls Tryd.prog 61 #[.agg #[v, .int .i64 n], .int .i64 at', .int .i64 k] w fun e w' => e = .returned (.tuple #[.int .u64 0, .int .i64 1]) ∧ Below w.heap.size w w' := by
  have hr1 := hr.below ((Below.refl _ _).alloc (Nat.le_refl _) (.cells #[v, .int .i64 n] 43)) (Nat.le_refl _)
  by_cases hk : k < 0 ∨ 64 < k
  · go_enter Tryd.func61, Tryd.ntmps61
    go_wp2_with (first
      | (go_at_call 48; go_must (refine (check_ok _ l n _ hr1 hbt n1 hok).mono ?_); rintro e w2 ⟨rfl, hb2⟩; obtain ⟨hc0, hc1, hb, hsz⟩ := box2 hb2)
      | (go_at_call 67; refine (isWidth_no _ _ hk).mono ?_; rintro e w' ⟨rfl, rfl⟩))
    go_ret2
    exact ⟨rfl, hb⟩
  · have ha : at' < 0 := by omega
    go_enter Tryd.func61, Tryd.ntmps61
    go_wp2_with (first
      | (go_at_call 48; go_must (refine (check_ok _ l n _ hr1 hbt n1 hok).mono ?_); rintro e w2 ⟨rfl, hb2⟩; obtain ⟨hc0, hc1, hb, hsz⟩ := box2 hb2)
      | (go_at_call 67; refine (isWidth_yes _ _ (by omega) (by omega)).mono ?_; rintro e w' ⟨rfl, rfl⟩))
    go_ret2
    exact ⟨rfl, hb⟩
theorem pull_short (v : Value) (l : List Int) (n at' k : Int) (w : World) (hr : RowB w v l) (hbt : Byt l) (n1 : n ≤ 9223372036854775807) (hok : P.OkB l n) (h0 : 0 ≤ k) (h1 : k ≤ 64) (ha : 0 ≤ at') (ha1 : at' ≤ 9223372036854775807) (hs : n - k < at') :
    Calls Tryd.prog 61 #[.agg #[v, .int .i64 n], .int .i64 at', .int .i64 k] w fun e w' => e = .returned (.tuple #[.int .u64 0, .int .i64 3]) ∧ Below w.heap.size w w' := by
  have hr1 := hr.below ((Below.refl _ _).alloc (Nat.le_refl _) (.cells #[v, .int .i64 n] 43)) (Nat.le_refl _)
  have hn0 := hok.1
  have hd : decide (at' < 0) = false := by simp; omega
  go_enter Tryd.func61, Tryd.ntmps61
  go_wp2_with (first
    | (go_at_call 48; go_must (refine (check_ok _ l n _ hr1 hbt n1 hok).mono ?_); rintro e w2 ⟨rfl, hb2⟩; obtain ⟨hc0, hc1, hb, hsz⟩ := box2 hb2)
    | (go_at_call 67; refine (isWidth_yes _ _ (by omega) (by omega)).mono ?_; rintro e w' ⟨rfl, rfl⟩))
  go_ret2
  exact ⟨rfl, hb⟩
set_option maxHeartbeats 1000000 in
theorem pull_ok (v : Value) (bs : List Bool) (p m : Nat) (w : World) (hr : RowB w v (P.pack bs)) (n1 : (bs.length : Int) ≤ 9223372036854775807) (h1 : m ≤ 64) (hs : p + m ≤ bs.length) :
    Calls Tryd.prog 61 #[.agg #[v, .int .i64 bs.length], .int .i64 p, .int .i64 m] w fun e w' => e = .returned (.tuple #[.int .u64 (P.val ((bs.drop p).take m) : Nat), .int .i64 0]) ∧ Below w.heap.size w w' := by
  have hr1 := hr.below ((Below.refl _ _).alloc (Nat.le_refl _) (.cells #[v, .int .i64 bs.length] 43)) (Nat.le_refl _)
  have hbt : Byt (P.pack bs) := P.pack_byt _ bs
  have hok := P.pack_ok bs
  have hlen := P.pack_len bs
  unfold P.bytesN at hlen
  obtain ⟨a, cap, rfl, ⟨hlc, hmax, hnn⟩, hcase⟩ := hr
  unfold maxLen at hmax
  generalize hL : (P.pack bs).length = L at hlen hlc hr1 hcase
  have HL := hide hL
  have hlen1 := Nat.le_of_eq hlen
  have hlen2 := Nat.le_of_eq hlen.symm
  clear hL hlen
  have hd : decide ((p : Int) < 0) = false := by simp
  have hg : decide ((bs.length : Int) - (m : Int) < (p : Int)) = false := by simp; omega
  go_enter Tryd.func61, Tryd.ntmps61
  go_wp2_with (first
    | (go_at_call 48; go_must (refine (check_ok _ _ _ _ hr1 hbt n1 hok).mono ?_); rintro e w2 ⟨rfl, hb2⟩; obtain ⟨hc0, hc1, hb, hsz⟩ := box2 hb2; clear hb2)
    | (go_at_call 67; refine (isWidth_yes _ _ (by omega) (by omega)).mono ?_; rintro e w' ⟨rfl, rfl⟩))
  go_loop [9, 10] (fun x i => ∃ j : Nat, j ≤ m ∧ i = .int .i64 ((p + j : Nat) : Int) ∧ x = .int .u64 (P.val ((bs.drop p).take j) : Nat)) (fun _ i => p + m - (intOf i).toNat)
  case atStart => exact ⟨0, by omega, by simp, by simp [P.val]⟩
  case round =>
    obtain ⟨j, hj, rfl, rfl⟩ := hrel
    by_cases hlt : j < m
    · rcases hcase with h0 | ⟨b, off, rfl, hbs, hcell⟩
      · have hL := HL.out
        rw [h0] at hL; simp at hL; omega
      have hc := (hb.cell (p := ⟨b, off + (p + j) / 8, none⟩) hbs).trans (hcell ((p + j) / 8) (by omega))
      rw [P.pack, P.packTo_at _ _ _ (by unfold P.bytesN; omega)] at hc
      have hbyte := P.byteAt_lt bs ((p + j) / 8)
      have HB := hide (P.byteAt_bit bs (p + j))
      have HV := hide (P.val_take bs p j (by omega))
      have hV := P.val_take_lt bs p j
      have hV2 : P.val ((bs.drop p).take j) < 9223372036854775808 := Nat.lt_of_lt_of_le hV (by
        have : (2 : Nat) ^ j ≤ 2 ^ 63 := Nat.pow_le_pow_right (by decide) (by omega)
        exact this)
      generalize P.val ((bs.drop p).take j) = V at HV hV2
      generalize P.byteAt bs ((p + j) / 8) = c at hc hbyte HB
      have i1 : ((p : Int) + (j : Int)) / 8 < (L : Int) := by omega
      have i0 : (0 : Int) ≤ ((p : Int) + (j : Int)) / 8 := by omega
      have i2 : (p : Int) + (j : Int) < (p : Int) + (m : Int) := by omega
      clear hV hcell
      go_wp2
      have hs2 := P.or_and V c (7 - (p + j) % 8) hV2 hbyte
      rw [HB.out, ← HV.out] at hs2
      go_round
      case rel => exact ⟨j + 1, by omega, by go_num, by rw [hs2]⟩
      case measure => simp [intOf]; omega
    · obtain rfl : j = m := by omega
      have i2 : decide ((p : Int) + (j : Int) < (p : Int) + (j : Int)) = false := by simp
      go_wp2
      go_ret2
      exact ⟨rfl, hb⟩
/-- Pull of bits that are right, at every place. -/
theorem pull_all (v : Value) (bs : List Bool) (p k : Int) (w : World) (hr : RowB w v (P.pack bs)) (n1 : (bs.length : Int) ≤ 9223372036854775807) (p1 : p ≤ 9223372036854775807) :
    Calls Tryd.prog 61 #[.agg #[v, .int .i64 bs.length], .int .i64 p, .int .i64 k] w (fun e w' => e = .returned (.tuple #[.int .u64 (P.pullV bs p k), .int .i64 (P.pullE bs p k)]) ∧ Below w.heap.size w w') := by
  have hbt : Byt (P.pack bs) := P.pack_byt _ bs
  unfold P.pullV P.pullE
  by_cases h : k < 0 ∨ 64 < k ∨ p < 0
  · rw [if_pos h, if_pos h]
    exact pull_arg v _ _ p k w hr hbt n1 (P.pack_ok bs) h
  · rw [if_neg h, if_neg h]
    by_cases hs : (bs.length : Int) - k < p
    · rw [if_pos hs, if_pos hs]
      exact pull_short v _ _ p k w hr hbt n1 (P.pack_ok bs) (by omega) (by omega) (by omega) p1 hs
    · rw [if_neg hs, if_neg hs]
      obtain ⟨p', rfl⟩ := Int.eq_ofNat_of_zero_le (show 0 ≤ p by omega)
      obtain ⟨k', rfl⟩ := Int.eq_ofNat_of_zero_le (show 0 ≤ k by omega)
      exact pull_ok v bs p' k' w hr n1 (by omega) (by omega)
end Go.Proofs.YtfjbdgkdkbcnhaaDoor
/- What bits.Push answers. -/
namespace Go.Proofs.YtfjbdgkdkbcnhaaDoor
open Go.RowKit
set_option linter.unusedVariables false

abbrev noBits : Value := .agg #[.slice none 0 0, .int .i64 0]
/-- Two boxes of two words each that the call has made, behind a call that leaves old memory alone. -/
theorem box4 {w w2 : World} {c0 c1 d0 d1 : Value} {t t' : TypeId} (hb : Below ((w.alloc (.cells #[c0, c1] t)).alloc (.cells #[d0, d1] t')).heap.size ((w.alloc (.cells #[c0, c1] t)).alloc (.cells #[d0, d1] t')) w2) :
    w2.cell? ⟨w.heap.size, 0, none⟩ = some c0 ∧ w2.cell? ⟨w.heap.size, 1, none⟩ = some c1 ∧ w2.cell? ⟨w.heap.size + 1, 0, none⟩ = some d0 ∧ w2.cell? ⟨w.heap.size + 1, 1, none⟩ = some d1 ∧
      w2.frozen? ⟨w.heap.size + 1, 0, none⟩ = false ∧ w2.frozen? ⟨w.heap.size + 1, 1, none⟩ = false ∧ Below w.heap.size w w2 ∧ w.heap.size + 1 < w2.heap.size := by
  have h0 := hb.cell (p := ⟨w.heap.size, 0, none⟩) (by simp; omega)
  have h1 := hb.cell (p := ⟨w.heap.size, 1, none⟩) (by simp; omega)
  have h2 := hb.cell (p := ⟨w.heap.size + 1, 0, none⟩) (by simp)
  have h3 := hb.cell (p := ⟨w.heap.size + 1, 1, none⟩) (by simp)
  have h4 := hb.frozen (p := ⟨w.heap.size + 1, 0, none⟩) (by simp)
  have h5 := hb.frozen (p := ⟨w.heap.size + 1, 1, none⟩) (by simp)
  have hs := hb.size
  refine ⟨h0.trans (by simp), h1.trans (by simp), h2.trans (by simp), h3.trans (by simp), h4.trans (by simp), h5.trans (by simp), (((Below.refl _ _).alloc (Nat.le_refl _) _).alloc (by simp) _).trans (hb.mono (by simp; omega)), ?_⟩
  simp at hs; omega
theorem row_two {w : World} {v : Value} {l : List Int} (h : RowB w v l) (o1 o2 : Obj) : RowB ((w.alloc o1).alloc o2) v l :=
  h.below (((Below.refl _ _).alloc (Nat.le_refl _) _).alloc (by simp) _) (Nat.le_refl _)

theorem push_bad (v : Value) (l : List Int) (n u k : Int) (w : World) (hr : RowB w v l) (hbt : Byt l) (n0 : -9223372036854775808 ≤ n) (n1 : n ≤ 9223372036854775807) (hok : ¬ P.OkB l n) :
    Calls Tryd.prog 55 #[.agg #[v, .int .i64 n], .int .u64 u, .int .i64 k] w fun e w' => e = .returned (.tuple #[noBits, .int .i64 4]) ∧ Below w.heap.size w w' := by
  go_enter Tryd.func55, Tryd.ntmps55
  go_wp2_with (go_at_call 48; go_must (refine (check_bad _ l n _ (row_two hr _ _) hbt n0 n1 hok).mono ?_); rintro e w2 ⟨rfl, hb2⟩; obtain ⟨hc0, hc1, hd0, hd1, hf0, hf1, hb, hsz⟩ := box4 hb2; clear hb2)
  exact bodyPost_ret (v := .tuple #[noBits, .int .i64 4]) (by simp [results, Tryd.results55, go_sem, hd0, hd1]) rfl ⟨rfl, (hb.setCell (by simp) _).setCell (by simp) _⟩
theorem push_width (v : Value) (l : List Int) (n u k : Int) (w : World) (hr : RowB w v l) (hbt : Byt l) (n1 : n ≤ 9223372036854775807) (hok : P.OkB l n) (hk : k < 0 ∨ 64 < k) :
    Calls Tryd.prog 55 #[.agg #[v, .int .i64 n], .int .u64 u, .int .i64 k] w fun e w' => e = .returned (.tuple #[noBits, .int .i64 1]) ∧ Below w.heap.size w w' := by
  go_enter Tryd.func55, Tryd.ntmps55
  go_wp2_with (first
    | (go_at_call 48; go_must (refine (check_ok _ l n _ (row_two hr _ _) hbt n1 hok).mono ?_); rintro e w2 ⟨rfl, hb2⟩; obtain ⟨hc0, hc1, hd0, hd1, hf0, hf1, hb, hsz⟩ := box4 hb2; clear hb2)
    | (go_at_call 67; refine (isWidth_no _ _ hk).mono ?_; rintro e w' ⟨rfl, rfl⟩))
  exact bodyPost_ret (v := .tuple #[noBits, .int .i64 1]) (by simp [results, Tryd.results55, go_sem, hd0, hd1]) rfl ⟨rfl, (hb.setCell (by simp) _).setCell (by simp) _⟩
theorem push_fits (v : Value) (l : List Int) (n u k : Int) (w : World) (hr : RowB w v l) (hbt : Byt l) (n1 : n ≤ 9223372036854775807) (hok : P.OkB l n) (h0 : 0 ≤ k) (h1 : k ≤ 64) (u0 : 0 ≤ u) (u1 : u ≤ 18446744073709551615) (hf : fitsB u k = false) :
    Calls Tryd.prog 55 #[.agg #[v, .int .i64 n], .int .u64 u, .int .i64 k] w fun e w' => e = .returned (.tuple #[noBits, .int .i64 1]) ∧ Below w.heap.size w w' := by
  go_enter Tryd.func55, Tryd.ntmps55
  go_wp2_with (first
    | (go_at_call 48; go_must (refine (check_ok _ l n _ (row_two hr _ _) hbt n1 hok).mono ?_); rintro e w2 ⟨rfl, hb2⟩; obtain ⟨hc0, hc1, hd0, hd1, hf0, hf1, hb, hsz⟩ := box4 hb2; clear hb2)
    | (go_at_call 67; refine (isWidth_yes _ _ h0 h1).mono ?_; rintro e w' ⟨rfl, rfl⟩)
    | (go_at_call 68; refine (fits_any _ _ _ u0 u1 h0 h1).mono ?_; rintro e w' ⟨rfl, rfl⟩))
  exact bodyPost_ret (v := .tuple #[noBits, .int .i64 1]) (by simp [results, Tryd.results55, go_sem, hd0, hd1]) rfl ⟨rfl, (hb.setCell (by simp) _).setCell (by simp) _⟩
theorem push_large (v : Value) (l : List Int) (n u k : Int) (w : World) (hr : RowB w v l) (hbt : Byt l) (n1 : n ≤ 9223372036854775807) (hok : P.OkB l n) (h0 : 0 ≤ k) (h1 : k ≤ 64) (u0 : 0 ≤ u) (u1 : u ≤ 18446744073709551615) (hf : fitsB u k = true) (hl : 80000 - k < n) :
    Calls Tryd.prog 55 #[.agg #[v, .int .i64 n], .int .u64 u, .int .i64 k] w fun e w' => e = .returned (.tuple #[noBits, .int .i64 2]) ∧ Below w.heap.size w w' := by
  go_enter Tryd.func55, Tryd.ntmps55
  go_wp2_with (first
    | (go_at_call 48; go_must (refine (check_ok _ l n _ (row_two hr _ _) hbt n1 hok).mono ?_); rintro e w2 ⟨rfl, hb2⟩; obtain ⟨hc0, hc1, hd0, hd1, hf0, hf1, hb, hsz⟩ := box4 hb2; clear hb2)
    | (go_at_call 67; refine (isWidth_yes _ _ h0 h1).mono ?_; rintro e w' ⟨rfl, rfl⟩)
    | (go_at_call 68; refine (fits_any _ _ _ u0 u1 h0 h1).mono ?_; rintro e w' ⟨rfl, rfl⟩))
  exact bodyPost_ret (v := .tuple #[noBits, .int .i64 2]) (by simp [results, Tryd.results55, go_sem, hd0, hd1]) rfl ⟨rfl, (hb.setCell (by simp) _).setCell (by simp) _⟩
/-- Where y and its bytes have been made, in whatever order. -/
def Made (T : Nat) (N : Int) (w' : World) (y : Value) (wc : World) : Prop := ∃ yb sb : Nat, y = .pointer (some ⟨yb, 0, none⟩) ∧ wc.cell? ⟨yb, 0, none⟩ = some (.slice (some ⟨sb, 0, none⟩) T T) ∧ wc.cell? ⟨yb, 1, none⟩ = some (.int .i64 N) ∧
    BlkB wc sb (List.replicate T 0) ∧ yb ≠ sb ∧ w'.heap.size ≤ yb ∧ w'.heap.size ≤ sb ∧ Below w'.heap.size w' wc
theorem madeCells_zero (T : Nat) : madeCells #[.int .u8 0] T = ((List.replicate T (0 : Int)).map (Value.int .u8)).toArray := by
  unfold madeCells
  apply Array.ext
  · simp
  · intro i h1 h2; simp [Nat.mod_one]
theorem made1 (T : Nat) (N : Int) (w' : World) : Made T N w' (.pointer (some ⟨w'.heap.size + 1, 0, none⟩))
    ((w'.alloc (.cells (madeCells #[.int .u8 0] T) 5)).alloc (.cells #[.slice (some ⟨w'.heap.size, 0, none⟩) T T, .int .i64 N] 43)).drew := by
  refine ⟨w'.heap.size + 1, w'.heap.size, rfl, by simp, by simp, ?_, by omega, by omega, by omega, Below.drew (((Below.refl _ _).alloc (Nat.le_refl _) _).alloc (by simp) _)⟩
  unfold BlkB
  rw [← madeCells_zero]
  exact (Below.heap_alloc _ _ _ (by simp)).trans (heap_alloc_new w' _)
theorem made2 (T : Nat) (N : Int) (w' : World) : Made T N w' (.pointer (some ⟨w'.heap.size, 0, none⟩))
    ((w'.alloc (.cells #[.slice (some ⟨w'.heap.size + 1, 0, none⟩) T T, .int .i64 N] 43)).alloc (.cells (madeCells #[.int .u8 0] T) 5)).drew := by
  refine ⟨w'.heap.size, w'.heap.size + 1, rfl, by simp, by simp, ?_, by omega, by omega, by omega, Below.drew (((Below.refl _ _).alloc (Nat.le_refl _) _).alloc (by simp) _)⟩
  unfold BlkB
  rw [← madeCells_zero]
  have := heap_alloc_new (w'.alloc (.cells #[.slice (some ⟨w'.heap.size + 1, 0, none⟩) T T, .int .i64 N] 43)) (.cells (madeCells #[.int .u8 0] T) 5)
  have hs : (w'.alloc (.cells #[.slice (some ⟨w'.heap.size + 1, 0, none⟩) T T, .int .i64 N] 43)).heap.size = w'.heap.size + 1 := by simp
  rw [hs] at this
  exact this

/-- 'copy(d, s)' from the front of a block of bytes of the call's own. -/
theorem run_copy (w : World) (g : Nat) (cur l : List Int) (vs : Value) (ty : TypeId) (hg : BlkB w g cur) (hr : RowB w vs l) (hle : l.length ≤ cur.length) :
    ∃ w', (Builtin.copy_ #[23, 23] ty #[.slice (some ⟨g, 0, none⟩) cur.length cur.length, vs]).run Tryd.prog w = .ok (.int .i64 (l.length : Nat)) w' ∧ BlkB w' g (l ++ cur.drop l.length) ∧ Only g w w' := by
  obtain ⟨ao, cap, rfl, ⟨hlc, hcm, hnn⟩, hcase⟩ := hr
  have hsz : (Tryd.prog.info? 5).map (·.size) = some 1 := by kernel_rfl
  rcases hcase with h0 | ⟨b, off, rfl, hbs, hcell⟩
  · subst h0
    exact ⟨w, run_copy_none w _ _ ty 5 _ _ _ _ _ _ Tryd.underlying23 hsz (Nat.zero_min _), hg, Only.refl _ _⟩
  · have hlen : (l.map (Value.int .u8)).length = Nat.min l.length cur.length := by simp [Nat.min_def]; omega
    have h := run_copy_row (P := Tryd.prog) w 23 23 ty 5 g 0 cur.length cur.length ⟨b, off, none⟩ l.length cap _ _ (l.map (Value.int .u8)) Tryd.underlying23 hsz hg hlen (by
      intro j v hj
      have hjl : j < l.length := by
        rcases Nat.lt_or_ge j l.length with h | h
        · exact h
        · rw [List.getElem?_eq_none (by simpa using h)] at hj; cases hj
      have ea : (Addr.add ⟨b, off, none⟩ j) = ⟨b, off + j, none⟩ := by
        unfold Addr.add; split
        · rename_i h; subst h; rfl
        · rfl
      rw [ea, hcell j hjl]
      simp [List.getElem?_eq_getElem hjl] at hj
      subst hj
      simp [List.getD_eq_getElem?_getD, List.getElem?_eq_getElem hjl]) (by simp; omega) (by
      intro v hv; obtain ⟨z, _, rfl⟩ := List.mem_map.1 hv; rfl)
    rw [List.length_map] at h
    refine ⟨_, h, ?_, ⟨rfl, rfl, rfl, by simp, fun k hk => setRow_other w g k _ hk⟩⟩
    unfold BlkB
    rw [setRow_heap w g _ _ _ _ hg]
    simp

theorem blk_bit {w : World} {g T : Nat} {xs : List Bool} (h : BlkB w g (P.packTo T xs)) (ht : xs.length / 8 < T) :
    BlkB (w.setCell ⟨g, xs.length / 8, none⟩ (.int .u8 (bits BinOp.or IntKind.u8 (P.byteAt xs (xs.length / 8) : Int) (128 / 2 ^ (xs.length % 8))))).drew g (P.packTo T (xs ++ [true])) := by
  have h2 := h.set (xs.length / 8) (bits BinOp.or IntKind.u8 (P.byteAt xs (xs.length / 8) : Int) (128 / 2 ^ (xs.length % 8)))
  rw [P.packTo_snoc1 T xs ht, ← P.or_bit xs, ← P.shr128 _ (Nat.mod_lt _ (by decide))]
  exact h2
set_option maxHeartbeats 2000000 in
theorem push_ok (v : Value) (bs : List Bool) (u m : Nat) (w : World) (hr : RowB w v (P.pack bs)) (h1 : m ≤ 64) (u1 : (u : Int) ≤ 18446744073709551615) (hf : u < 2 ^ m) (hl : bs.length + m ≤ 80000) :
    Calls Tryd.prog 55 #[.agg #[v, .int .i64 bs.length], .int .u64 u, .int .i64 m] w fun e w' =>
      ∃ vy, e = .returned (.tuple #[.agg #[vy, .int .i64 ((bs.length + m : Nat) : Int)], .int .i64 0]) ∧ OwnB w' w.heap.size vy (P.pack (bs ++ P.ofVal u m)) ∧ Below w.heap.size w w' := by
  have hbt : Byt (P.pack bs) := P.pack_byt _ bs
  have hok := P.pack_ok bs
  have hfb : fitsB u m = true := by
    unfold fitsB; rw [decide_eq_true_eq, Int.toNat_natCast]; exact_mod_cast hf
  have hg : decide (80000 - (m : Int) < (bs.length : Int)) = false := by simp; omega
  obtain ⟨T, hT⟩ : ∃ T : Nat, T = (bs.length + m + 7) / 8 := ⟨_, rfl⟩
  have HT : Hid (((bs.length : Int) + (m : Int) + 7) / 8 = (T : Int)) := by show _ = _; omega
  have hT1 : 8 * T ≤ bs.length + m + 7 := by omega
  have hT2 : bs.length + m ≤ 8 * T := by omega
  have hTb : Hid (P.bytesN (bs.length + m) = T) := by show _ = _; unfold P.bytesN; omega
  clear hT
  go_enter Tryd.func55, Tryd.ntmps55
  go_wp2_with (first
    | (go_at_call 48; go_must (refine (check_ok _ _ _ _ (row_two hr _ _) hbt (by omega) hok).mono ?_); rintro e w2 ⟨rfl, hb2⟩; obtain ⟨hc0, hc1, hd0, hd1, hf0, hf1, hb, hsz⟩ := box4 hb2; clear hb2)
    | (go_at_call 67; refine (isWidth_yes _ _ (by omega) (by omega)).mono ?_; rintro e w' ⟨rfl, rfl⟩)
    | (go_at_call 68; refine (fits_any _ _ _ (by omega) u1 (by omega) (by omega)).mono ?_; rw [hfb]; rintro e w' ⟨rfl, rfl⟩))
  have hmk := fun w => run_make_row' (P := Tryd.prog) 23 5 (.int .u8 0) 1 Tryd.underlying23 Tryd.info5 rfl .i64 .i64 T (by omega) (by omega) w
  have hwr : IntKind.i64.wrap ((bs.length : Int) + (m : Int)) = (bs.length : Int) + (m : Int) := by rw [IntKind.wrap_i64]; omega
  go_cut [9] (fun y wc => Made T ((bs.length : Int) + (m : Int)) w' y wc)
  case first =>
    go_region_held3 (fun wx => wx.cell? ⟨w.heap.size, 1, none⟩ = some (.int .i64 bs.length)) (go_keep) (first
      | (go_at_call 60; refine (bytesFor_any _ _ (by omega) (by omega)).mono ?_; rw [HT.out]; rintro e wz ⟨rfl, rfl⟩))
    all_goals go_wp2
    all_goals go_meet
    all_goals first | exact made1 _ _ _ | exact made2 _ _ _
  case rest =>
    obtain ⟨yb, sb, rfl, hy0, hy1, hblk, hne, hyb, hsb, hbc⟩ := hcut
    clear hmk hwr
    have hrc : RowB wc v (P.pack bs) := hr.below (hb.trans (hbc.mono (by omega))) (Nat.le_refl _)
    have hcl : (P.pack bs).length ≤ (List.replicate T (0 : Int)).length := by rw [P.pack_len]; simp [P.bytesN]; omega
    have hbw : Below w.heap.size w wc := hb.trans (hbc.mono (by omega))
    have hbs : w.heap.size ≤ sb := by omega
    have b0 := (hbc.cell (p := ⟨w.heap.size, 0, none⟩) (by simp; omega)).trans hc0
    have b1 := (hbc.cell (p := ⟨w.heap.size, 1, none⟩) (by simp; omega)).trans hc1
    obtain ⟨w3, hcopy, hk3, ho3⟩ := run_copy wc sb (List.replicate T 0) (P.pack bs) v 3 hblk hrc hcl
    rw [List.length_replicate] at hcopy
    rw [List.drop_replicate, P.pack_len, P.packTo_zero T bs (by unfold P.bytesN; omega)] at hk3
    have y0 := (ho3.cell (p := ⟨yb, 0, none⟩) hne).trans hy0
    have y1 := (ho3.cell (p := ⟨yb, 1, none⟩) hne).trans hy1
    have e0 := (ho3.cell (p := ⟨w.heap.size, 1, none⟩) (by simp; omega)).trans b1
    have r0 := (ho3.cell (p := ⟨w.heap.size + 1, 0, none⟩) (by simp; omega)).trans ((hbc.cell (p := ⟨w.heap.size + 1, 0, none⟩) (by simp; omega)).trans hd0)
    have r1 := (ho3.cell (p := ⟨w.heap.size + 1, 1, none⟩) (by simp; omega)).trans ((hbc.cell (p := ⟨w.heap.size + 1, 1, none⟩) (by simp; omega)).trans hd1)
    have z0 := (ho3.frozen (p := ⟨w.heap.size + 1, 0, none⟩) (by simp; omega)).trans ((hbc.frozen (p := ⟨w.heap.size + 1, 0, none⟩) (by simp; omega)).trans hf0)
    have z1 := (ho3.frozen (p := ⟨w.heap.size + 1, 1, none⟩) (by simp; omega)).trans ((hbc.frozen (p := ⟨w.heap.size + 1, 1, none⟩) (by simp; omega)).trans hf1)
    have hb3 : Below w.heap.size w w3 := hbw.trans (ho3.below hbs)
    have hnb : w.heap.size ≠ sb := by omega
    have hnr : w.heap.size + 1 ≠ sb := by omega
    go_wp2
    clear hcopy hc0 hc1 hd0 hd1 hf0 hf1 hb hbc hrc hcl b0 b1 ho3 hy0 hy1 hblk hbw
    go_loopw [10] (fun i wr => ∃ j : Nat, j ≤ m ∧ i = .int .i64 j ∧ BlkB wr sb (P.packTo T (bs ++ (P.ofVal u m).take j)) ∧ Only sb w3 wr) (fun i _ => m - (intOf i).toNat)
    case atStart => exact ⟨0, by omega, rfl, by simpa using hk3, Only.refl _ _⟩
    case round =>
      obtain ⟨j, hj, rfl, hblk, ho⟩ := hrel
      have e1 := (ho.cell (p := ⟨w.heap.size, 1, none⟩) hnb).trans e0
      have y2 := (ho.cell (p := ⟨yb, 0, none⟩) hne).trans y0
      by_cases hlt : j < m
      · have hxl : (bs ++ (P.ofVal u m).take j).length = bs.length + j := by simp [P.ofVal_len]; omega
        have hq : (bs.length + j) / 8 < T := by omega
        have hc := hblk.cell (j := (bs.length + j) / 8) (by rw [P.packTo_len]; exact hq)
        have hfz := hblk.unfrozen ((bs.length + j) / 8)
        rw [P.packTo_at T _ _ hq] at hc
        have HS := hide (P.take_ofVal u m j hlt)
        have i0 : (0 : Int) ≤ ((bs.length : Int) + (j : Int)) / 8 := by omega
        have i1 : ((bs.length : Int) + (j : Int)) / 8 < (T : Int) := by omega
        by_cases hbit : u / 2 ^ (m - 1 - j) % 2 = 1
        · have HB := hide hbit
          have hbb : (bits BinOp.and IntKind.u64 ((u : Int) / 2 ^ (m - 1 - j)) 1 == 1) = true := by rw [P.and_one u _ (by omega), hbit]; rfl
          clear hbit
          have HX := hide hxl
          clear hxl
          have hbyte := P.byteAt_lt (bs ++ (P.ofVal u m).take j) ((bs.length + j) / 8)
          generalize hcv : P.byteAt (bs ++ (P.ofVal u m).take j) ((bs.length + j) / 8) = cv at hc hbyte
          have HC := hide hcv
          clear hcv
          have s0 : (0 : Int) ≤ ((bs.length : Int) + (j : Int)) % 8 := by omega
          have s1 : ((bs.length : Int) + (j : Int)) % 8 < 8 := by omega
          go_wp2
          go_region
          go_wp2
          go_roundw
          case rel =>
            refine ⟨j + 1, by omega, by go_num, ?_, (ho.setCell _ _).drew⟩
            have h := blk_bit hblk (by rw [HX.out]; exact hq)
            rw [HX.out, HC.out] at h
            rw [HS.out, decide_eq_true HB.out, ← List.append_assoc]
            exact h
          case measure => simp [intOf]; omega
        · have HB := hide hbit
          have hbb : (bits BinOp.and IntKind.u64 ((u : Int) / 2 ^ (m - 1 - j)) 1 == 1) = false := by
            rw [P.and_one u _ (by omega)]
            have : u / 2 ^ (m - 1 - j) % 2 = 0 := by omega
            rw [this]; rfl
          clear hbit hxl
          go_wp2
          go_roundw
          case rel =>
            refine ⟨j + 1, by omega, by go_num, ?_, ho⟩
            rw [HS.out, decide_eq_false HB.out, ← List.append_assoc, P.packTo_snoc0]
            exact hblk
          case measure => simp [intOf]; omega
      · obtain rfl : j = m := by omega
        have y3 := (ho.cell (p := ⟨yb, 1, none⟩) hne).trans y1
        have q0 := (ho.cell (p := ⟨w.heap.size + 1, 0, none⟩) hnr).trans r0
        have q1 := (ho.cell (p := ⟨w.heap.size + 1, 1, none⟩) hnr).trans r1
        have x0 := (ho.frozen (p := ⟨w.heap.size + 1, 0, none⟩) hnr).trans z0
        have x1 := (ho.frozen (p := ⟨w.heap.size + 1, 1, none⟩) hnr).trans z1
        have hlt' : decide ((j : Int) < (j : Int)) = false := by simp
        have hbf : Below w.heap.size w wr := hb3.trans (ho.below hbs)
        have HK := hide hblk
        clear hblk
        go_wp2
        refine bodyPost_ret (v := .tuple #[.agg #[.slice (some ⟨sb, 0, none⟩) T T, .int .i64 ((bs.length : Int) + (j : Int))], .int .i64 0]) (by simp [results, Tryd.results55, go_sem, q0, q1]) rfl ⟨.slice (some ⟨sb, 0, none⟩) T T, ?_, ?_, (hbf.setCell (by simp) _).setCell (by simp) _⟩
        · simp only [Int.natCast_add]
        · have hfin : P.packTo T (bs ++ (P.ofVal u j).take j) = P.pack (bs ++ P.ofVal u j) := by
            rw [List.take_of_length_le (by rw [P.ofVal_len]; exact Nat.le_refl _)]
            unfold P.pack
            rw [List.length_append, P.ofVal_len, hTb.out]
          have hk4 := HK.out
          rw [hfin] at hk4
          have hk5 : BlkB ((wr.setCell ⟨w.heap.size + 1, 0, none⟩ (.slice (some ⟨sb, 0, none⟩) T T)).setCell ⟨w.heap.size + 1, 1, none⟩ (.int .i64 ((bs.length : Int) + (j : Int)))) sb (P.pack (bs ++ P.ofVal u j)) :=
            (heap_setCell_other _ _ sb _ hnr.symm).trans ((heap_setCell_other _ _ sb _ hnr.symm).trans hk4)
          have hlp : (P.pack (bs ++ P.ofVal u j)).length = T := by rw [P.pack_len, List.length_append, P.ofVal_len, hTb.out]
          have ho5 := hk5.own hbs (by rw [hlp]; unfold maxLen; omega)
          rw [hlp] at ho5
          exact ho5
end Go.Proofs.YtfjbdgkdkbcnhaaDoor
/- Words and laws of my own for rows of integers of whatever kind that the call itself owns: how they stay, how one is put behind them. -/
namespace Go.Proofs.YtfjbdgkdkbcnhaaDoor
open Go.RowKit
set_option linter.unusedVariables false

/-- Integers that the call itself made: t the element's type, k its kind. -/
abbrev OwnK (t : TypeId) (k : IntKind) (w : World) (base : Nat) (v : Value) (l : List Int) : Prop := w.ownsRow base t 1 v l.length (l.map (Value.int k))
theorem OwnK.row {t : TypeId} {k : IntKind} {w : World} {base : Nat} {v : Value} {l : List Int} (h : OwnK t k w base v l) : RowK k w v l := by
  obtain ⟨h1, h2⟩ := h
  rcases h2 with ⟨rfl, h0⟩ | ⟨g, cap, cur, rfl, hb, hg, hn, hm, hs, ht⟩
  · have : l = [] := List.length_eq_zero_iff.1 h0
    subst this
    exact ⟨none, 0, rfl, ⟨by simp, by simp, fun _ => rfl⟩, .inl rfl⟩
  · refine ⟨_, cap, rfl, ⟨hn, hm, fun h => by cases h⟩, ?_⟩
    rcases l with _ | ⟨x, l⟩
    · exact .inl rfl
    · refine .inr ⟨g, 0, rfl, (Array.getElem?_eq_some_iff.1 hg).1, fun j hj => ?_⟩
      have hj' : j < cur.size := by omega
      have e : cur[j]? = some (.int k ((x :: l).getD j 0)) := by
        have h3 : (cur.toList.take ((x :: l).length * 1))[j]? = ((x :: l).map (Value.int k))[j]? := by rw [ht]
        rw [List.getElem?_take, if_pos (by omega), List.getElem?_map] at h3
        rw [← Array.getElem?_toList, h3]
        simp [List.getElem?_eq_getElem hj, List.getD_eq_getElem?_getD]
      simp [World.cell?, hg, e]
theorem OwnK.shape {t : TypeId} {k : IntKind} {w : World} {base : Nat} {v : Value} {l : List Int} (h : OwnK t k w base v l) : ∃ a cap, v = .slice a l.length cap := by
  obtain ⟨a, cap, hv, _⟩ := h.row; exact ⟨a, cap, hv⟩
/-- The length of a value that owns bytes. -/
theorem OwnB.shp {w : World} {base : Nat} {v : Value} {l : List Int} (h : OwnB w base v l) : ∃ a cap, v = .slice a l.length cap := OwnK.shape (t := 5) (k := .u8) h
theorem OwnK.base {t : TypeId} {k : IntKind} {w : World} {b b' : Nat} {v : Value} {l : List Int} (h : OwnK t k w b v l) (hb : b' ≤ b) : OwnK t k w b' v l := by
  obtain ⟨h1, h2⟩ := h
  refine ⟨h1, ?_⟩
  rcases h2 with h2 | ⟨g, cap, cur, rfl, hg, r⟩
  · exact .inl h2
  · exact .inr ⟨g, cap, cur, rfl, Nat.le_trans hb hg, r⟩
theorem OwnK.below {t : TypeId} {k : IntKind} {w w' : World} {base B : Nat} {v : Value} {l : List Int} (h : OwnK t k w base v l) (hb : Below B w w') (hB : w.heap.size ≤ B) : OwnK t k w' base v l := by
  obtain ⟨h1, h2⟩ := h
  refine ⟨h1, ?_⟩
  rcases h2 with h2 | ⟨g, cap, cur, rfl, hg, hh, r⟩
  · exact .inl h2
  · exact .inr ⟨g, cap, cur, rfl, hg, by rw [hb.block g (Nat.lt_of_lt_of_le (Array.getElem?_eq_some_iff.1 hh).1 hB)]; exact hh, r⟩
theorem OwnK.nil (t : TypeId) (k : IntKind) (w : World) (base : Nat) : OwnK t k w base (.slice none 0 0) [] := World.ownsRow_nil _ _ _ _

theorem Tryd.info2 : (Tryd.prog.info? 2).map (fun i => (i.zero, i.size, i.bytes)) = some (some (.int .i64 0), 1, 8) := by kernel_rfl
theorem cells2 : Tryd.prog.cellsOf 2 = 1 := by kernel_rfl
theorem bytes2 : Tryd.prog.bytesOf 2 = 8 := by kernel_rfl
/-- 'append(b, x)' of one integer to a row of the call's own. -/
theorem wp_app1K {ops : Array Oper} {rest : List Oper} {o : Oper} {a : Act} {Q : Exit → Act → World → Prop} (hgd : o.guard = none) (s x : Operand) (st t : TypeId) (k : IntKind) (by8 : Nat)
    (ho : o.op = .call { callee := .builtin .append, args := #[s, x], argTypes := #[st, st] })
    (hu : Tryd.prog.underlying st = some (.slice t)) (hin : (Tryd.prog.info? t).map (fun i => (i.zero, i.size, i.bytes)) = some (some (.int k 0), 1, by8)) (hby : 1 ≤ by8 ∧ by8 ≤ 8)
    (B base : Nat) (w0 w : World) (v : Value) (acc : List Int) (y : Int) (hown : OwnK t k w base v acc) (hb : Below B w0 w) (hB : B ≤ base) (hs : a.eval s = v)
    (hx : a.eval x = .slice (some ⟨w.heap.size, 0, none⟩) 1 1) (hlen : (acc.length + 1) * by8 ≤ 140737488355328) (hbase : base ≤ w.heap.size)
    (h : ∀ v' w', OwnK t k w' base v' (acc ++ [y]) → Below B w0 w' → w.heap.size < w'.heap.size → w.grownBy w' v.ownBlock → wpList Tryd.prog ops Q rest (a.put o.dst v') w') :
    wpList Tryd.prog ops Q (o :: rest) a (w.alloc (.cells #[.int k y] t)) := by
  obtain ⟨i0, hi, hz0, hz1, hz2⟩ := info_parts hin
  refine wpList_append_own _ hgd s x st ho base t i0 (.int k 0) 1 by8 hu hi hz0 hz1 hz2 rfl (by omega) v _ _ hs (hown.alloc _) ⟨w.heap.size, 0, none⟩ 1 1 [.int k y] hx rfl ?_ ?_ ?_ ?_ ?_ ?_
  · intro j u hj
    match j, hj with
    | 0, hj => simp at hj; subst hj; simp [Addr.add]
  · intro u hu; simp at hu; subst hu; rfl
  · unfold maxLen
    have : acc.length + 1 ≤ (acc.length + 1) * by8 := Nat.le_mul_of_pos_right _ hby.1
    omega
  · omega
  · simp; omega
  · intro v' w' ho' hg _
    refine h v' w' ?_ ((hb.alloc (by omega) _).grown hg (by simp; omega) ?_) ?_ ((World.grownBy_alloc w _ _).trans hg)
    · have e1 : (acc ++ [y]).length = acc.length + 1 := by simp
      have e2 : (acc ++ [y]).map (Value.int k) = acc.map (Value.int k) ++ [.int k y] := by simp
      show w'.ownsRow base t 1 v' (acc ++ [y]).length ((acc ++ [y]).map (Value.int k))
      rw [e1, e2]; exact ho'
    · intro j hj; have := (hown.lt j hj).1; omega
    · have := hg.size; simp at this; omega
end Go.Proofs.YtfjbdgkdkbcnhaaDoor
