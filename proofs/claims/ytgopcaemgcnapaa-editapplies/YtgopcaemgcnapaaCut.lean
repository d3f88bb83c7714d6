/- Slices of slices of bytes, whether nil or not: where they lie, and what they lead to. No conditions but the bounds. -/
import Derived.Test.YtgopcaemgcnapaaBase
namespace Go.Proofs.Ytgopcaemgcnapaa.Clep
open Go.RowKit
set_option linter.unusedVariables false
set_option maxRecDepth 10000

/-- Where a slice of (a, cap) from l on lies. -/
def cut (a : Option Addr) (cap l : Nat) : Option Addr := if cap = l then a else a.map (·.add l)
theorem cut_eq (a : Option Addr) (l h cap : Nat) : sliced a l h cap 1 = .slice (cut a cap l) (h - l) (cap - l) := by
  unfold sliced cut
  rw [Nat.mul_one]
theorem sizeof_u8 (w : World) : (sizeOf (Try.prog.elem 35)).run Try.prog w = .ok 1 w := by
  go_simp
theorem under_bytes : Try.prog.underlying 35 = some (.slice (Try.prog.elem 35)) := by kernel_rfl
theorem cut_h (w : World) (a : Option Addr) (len cap : Nat) (k : IntKind) (h : Int) (h0 : 0 ≤ h) (h2 : h ≤ cap) :
    (Instr.sliceAt 35 (.slice a len cap) none (some (.int k h)) none).run Try.prog w = .ok (.slice (cut a cap 0) h.toNat cap) w := by
  rw [run_sliceAt_slice _ _ _ _ _ _ under_bytes, run_slice_h _ _ _ _ _ under_bytes k h h0 h2, sizeof_u8]
  simp only [Result.andThen, cut_eq, Nat.sub_zero]
theorem cut_l (w : World) (a : Option Addr) (len cap : Nat) (k : IntKind) (l : Int) (h0 : 0 ≤ l) (h1 : l ≤ len) :
    (Instr.sliceAt 35 (.slice a len cap) (some (.int k l)) none none).run Try.prog w = .ok (.slice (cut a cap l.toNat) (len - l.toNat) (cap - l.toNat)) w := by
  rw [run_sliceAt_slice _ _ _ _ _ _ under_bytes, run_slice_l _ _ _ _ _ under_bytes k l h0 h1, sizeof_u8]
  simp only [Result.andThen, cut_eq]
theorem cut_lh (w : World) (a : Option Addr) (len cap : Nat) (k k' : IntKind) (l h : Int) (h0 : 0 ≤ l) (h1 : l ≤ h) (h2 : h ≤ cap) :
    (Instr.sliceAt 35 (.slice a len cap) (some (.int k l)) (some (.int k' h)) none).run Try.prog w = .ok (.slice (cut a cap l.toNat) (h.toNat - l.toNat) (cap - l.toNat)) w := by
  rw [run_sliceAt_slice _ _ _ _ _ _ under_bytes, run_slice_lh _ _ _ _ _ under_bytes k k' l h h0 h1 h2, sizeof_u8]
  simp only [Result.andThen, cut_eq]

theorem Bs.cut {w : World} {a : Option Addr} {len cap : Nat} {zs : List Int} (hb : Bs w a len cap zs) (l h : Nat) (h1 : l ≤ h) (h2 : h ≤ len) : Bs w (cut a cap l) (h - l) (cap - l) ((zs.take h).drop l) := by
  have hl : ((zs.take h).drop l).length = h - l := by rw [List.length_drop, List.length_take, hb.1]; omega
  have hc := hb.2.1.1
  refine ⟨hl, ⟨by omega, fun hn => ?_⟩, ?_, fun h0 => ?_⟩
  · have : a = none := by
      cases a with
      | none => rfl
      | some x => unfold Clep.cut at hn; split at hn <;> cases hn
    have := hb.2.1.2 this
    omega
  · refine range_of fun z hz => ?_
    exact bs_range hb z (List.mem_of_mem_take (List.mem_of_mem_drop hz))
  · obtain ⟨b, off, rfl, hcell⟩ := hb.2.2.2 (by omega)
    refine ⟨b, off + l, ?_, fun i hi => ?_⟩
    · unfold Clep.cut
      rw [if_neg (by omega)]
      simp [add_plain]
    · have := hcell (l + i) (by omega)
      rw [Nat.add_assoc, this]
      simp [List.getD, List.getElem?_drop, show l + i < h by omega]

end Go.Proofs.Ytgopcaemgcnapaa.Clep
