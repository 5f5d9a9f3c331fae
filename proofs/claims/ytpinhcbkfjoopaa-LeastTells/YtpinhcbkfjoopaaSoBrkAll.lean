/- Several texts in one. -/
import Derived.Test.YtpinhcbkfjoopaaSoPivAll
/- Numbers below 2^64: a few of them exchanged at places that nobody foresees. -/
namespace Go.Proofs.Ytpinhcbkfjoopaa
open Go.RowKit
set_option linter.unusedVariables false
theorem xor_some (x y : Int) : ∃ v : Nat, v < 18446744073709551616 ∧ bits BinOp.xor IntKind.u64 x y = (v : Int) := by
  have h : ∃ z : Int, bits BinOp.xor IntKind.u64 x y = IntKind.u64.wrap z := ⟨_, rfl⟩
  obtain ⟨z, hz⟩ := h
  have := IntKind.wrap_u64 z
  refine ⟨(IntKind.u64.wrap z).toNat, ?_, ?_⟩
  · rw [this]; omega
  · rw [hz, this]; omega
set_option maxHeartbeats 4000000 in
set_option maxRecDepth 100000 in
/-- Next: some number. -/
theorem next_u {B : Nat} {w0 w : World} {g n cap s : Nat} {d : Array Int} (h : InR B w0 g n cap w d) (hs : B ≤ s) (hne : s ≠ g) (v : Nat) (hv : v < 18446744073709551616) (cs : w.cell? ⟨s, 0, none⟩ = some (.int .u64 (v : Int))) (fs : w.frozen? ⟨s, 0, none⟩ = false) :
    Calls Try.prog 59 #[.pointer (some ⟨s, 0, none⟩)] w fun e w' => ∃ v' : Nat, v' < 18446744073709551616 ∧ e = .returned (.int .u64 (v' : Int)) ∧ InR B w0 g n cap w' d ∧ w'.cell? ⟨s, 0, none⟩ = some (.int .u64 (v' : Int)) ∧ w'.frozen? ⟨s, 0, none⟩ = false := by
  have HK := hide h
  clear h
  go_enter Try.func59, Try.ntmps59
  go_wp2
  go_region
  obtain ⟨v1, hv1, e1⟩ := xor_some (v : Int) (IntKind.u64.wrap ((v : Int) * 8192))
  rw [e1]
  have HK1 := hide ((HK.out.far hs hne (.int .u64 (v1 : Int))).draw 1)
  have cs1 : ((w.setCell ⟨s, 0, none⟩ (.int .u64 (v1 : Int))).drew).cell? ⟨s, 0, none⟩ = some (.int .u64 (v1 : Int)) := by show (w.setCell ⟨s, 0, none⟩ (.int .u64 (v1 : Int))).cell? ⟨s, 0, none⟩ = _; first | exact World.cell?_setCell_same _ _ _ cs | simp [cs]
  have fs1 : ((w.setCell ⟨s, 0, none⟩ (.int .u64 (v1 : Int))).drew).frozen? ⟨s, 0, none⟩ = false := by show (w.setCell ⟨s, 0, none⟩ (.int .u64 (v1 : Int))).frozen? ⟨s, 0, none⟩ = _; simp [fs]
  change Hid (InR B w0 g n cap (w.setCell ⟨s, 0, none⟩ (.int .u64 (v1 : Int))).drew d) at HK1
  clear cs fs HK e1
  generalize (w.setCell ⟨s, 0, none⟩ (.int .u64 (v1 : Int))).drew = w1 at *
  go_wp2
  go_region
  obtain ⟨v2, hv2, e1⟩ := xor_some (v1 : Int) ((v1 : Int) / 128)
  rw [e1]
  have HK2 := hide ((HK1.out.far hs hne (.int .u64 (v2 : Int))).draw 1)
  have cs2 : ((w1.setCell ⟨s, 0, none⟩ (.int .u64 (v2 : Int))).drew).cell? ⟨s, 0, none⟩ = some (.int .u64 (v2 : Int)) := by show (w1.setCell ⟨s, 0, none⟩ (.int .u64 (v2 : Int))).cell? ⟨s, 0, none⟩ = _; first | exact World.cell?_setCell_same _ _ _ cs1 | simp [cs1]
  have fs2 : ((w1.setCell ⟨s, 0, none⟩ (.int .u64 (v2 : Int))).drew).frozen? ⟨s, 0, none⟩ = false := by show (w1.setCell ⟨s, 0, none⟩ (.int .u64 (v2 : Int))).frozen? ⟨s, 0, none⟩ = _; simp [fs1]
  change Hid (InR B w0 g n cap (w1.setCell ⟨s, 0, none⟩ (.int .u64 (v2 : Int))).drew d) at HK2
  clear cs1 fs1 HK1 e1
  generalize (w1.setCell ⟨s, 0, none⟩ (.int .u64 (v2 : Int))).drew = w2 at *
  go_wp2
  go_region
  obtain ⟨v3, hv3, e1⟩ := xor_some (v2 : Int) (IntKind.u64.wrap ((v2 : Int) * 131072))
  rw [e1]
  have HK3 := hide ((HK2.out.far hs hne (.int .u64 (v3 : Int))).draw 1)
  have cs3 : ((w2.setCell ⟨s, 0, none⟩ (.int .u64 (v3 : Int))).drew).cell? ⟨s, 0, none⟩ = some (.int .u64 (v3 : Int)) := by show (w2.setCell ⟨s, 0, none⟩ (.int .u64 (v3 : Int))).cell? ⟨s, 0, none⟩ = _; first | exact World.cell?_setCell_same _ _ _ cs2 | simp [cs2]
  have fs3 : ((w2.setCell ⟨s, 0, none⟩ (.int .u64 (v3 : Int))).drew).frozen? ⟨s, 0, none⟩ = false := by show (w2.setCell ⟨s, 0, none⟩ (.int .u64 (v3 : Int))).frozen? ⟨s, 0, none⟩ = _; simp [fs2]
  change Hid (InR B w0 g n cap (w2.setCell ⟨s, 0, none⟩ (.int .u64 (v3 : Int))).drew d) at HK3
  clear cs2 fs2 HK2 e1
  generalize (w2.setCell ⟨s, 0, none⟩ (.int .u64 (v3 : Int))).drew = w3 at *
  go_wp2
  go_ret
  exact ⟨v3, hv3, rfl, HK3.out, cs3, fs3⟩
end Go.Proofs.Ytpinhcbkfjoopaa
