/- Files, Views and Edits: as Lean's own structures, and how they lie in memory. No conditions. -/
import Derived.Test.YtgopcaemgcnapaaBase
namespace Go.Proofs.Ytgopcaemgcnapaa.Clep
open Go.RowKit
set_option linter.unusedVariables false
set_option maxRecDepth 10000

structure Fi where
  L : Int
  N : Int
def Fi.wf (f : Fi) : Prop := (-9223372036854775808 ≤ f.L ∧ f.L ≤ 9223372036854775807) ∧ (-9223372036854775808 ≤ f.N ∧ f.N ≤ 9223372036854775807)
def Fi.ok (f : Fi) : Bool := decide (0 ≤ f.L ∧ f.L ≤ 3 ∧ 1 ≤ f.N ∧ f.N ≤ 1073741824)
/-- The slice (ao, len, cap) leads to the files l. -/
def Fs (w : World) (ao : Option Addr) (len cap : Nat) (l : List Fi) : Prop :=
  l.length = len ∧ (len ≤ cap ∧ (ao = none → len = 0 ∧ cap = 0)) ∧ (∀ x ∈ l, x.wf) ∧
    (0 < len → ∃ b off, ao = some ⟨b, off, none⟩ ∧ ∀ i f, l[i]? = some f → w.cell? ⟨b, off + i * 2, none⟩ = some (.int .i64 f.L) ∧ w.cell? ⟨b, off + i * 2 + 1, none⟩ = some (.int .i64 f.N))
/-- The slice (ao, len, cap) leads to the numbers ns. -/
def Zs (w : World) (ao : Option Addr) (len cap : Nat) (ns : List Int) : Prop :=
  ns.length = len ∧ (len ≤ cap ∧ (ao = none → len = 0 ∧ cap = 0)) ∧ (∀ z ∈ ns, -9223372036854775808 ≤ z ∧ z ≤ 9223372036854775807) ∧
    (0 < len → ∃ b off, ao = some ⟨b, off, none⟩ ∧ ∀ i z, ns[i]? = some z → w.cell? ⟨b, off + i, none⟩ = some (.int .i64 z))
theorem fs_nil (w : World) : Fs w none 0 0 [] := ⟨rfl, ⟨Nat.le_refl _, fun _ => ⟨rfl, rfl⟩⟩, by simp, fun h => by omega⟩
theorem zs_nil (w : World) : Zs w none 0 0 [] := ⟨rfl, ⟨Nat.le_refl _, fun _ => ⟨rfl, rfl⟩⟩, by simp, fun h => by omega⟩
theorem Fs.below {w w' : World} {B : Nat} {ao : Option Addr} {len cap : Nat} {l : List Fi} (h : Fs w ao len cap l) (hb : Below B w w') (hB : w.heap.size ≤ B) : Fs w' ao len cap l := by
  refine ⟨h.1, h.2.1, h.2.2.1, fun h0 => ?_⟩
  obtain ⟨b, off, e, hc⟩ := h.2.2.2 h0
  refine ⟨b, off, e, fun i f hf => ?_⟩
  obtain ⟨c0, c1⟩ := hc i f hf
  have hl := Nat.lt_of_lt_of_le (World.block_lt_of_cell? w _ c0) hB
  exact ⟨(hb.cell (p := ⟨b, off + i * 2, none⟩) hl).trans c0, (hb.cell (p := ⟨b, off + i * 2 + 1, none⟩) hl).trans c1⟩
theorem Zs.below {w w' : World} {B : Nat} {ao : Option Addr} {len cap : Nat} {l : List Int} (h : Zs w ao len cap l) (hb : Below B w w') (hB : w.heap.size ≤ B) : Zs w' ao len cap l := by
  refine ⟨h.1, h.2.1, h.2.2.1, fun h0 => ?_⟩
  obtain ⟨b, off, e, hc⟩ := h.2.2.2 h0
  refine ⟨b, off, e, fun i z hz => ?_⟩
  exact (hb.cell (p := ⟨b, off + i, none⟩) (Nat.lt_of_lt_of_le (World.block_lt_of_cell? w _ (hc i z hz)) hB)).trans (hc i z hz)
theorem fs_at {w : World} {ao : Option Addr} {len cap : Nat} {l : List Fi} (h : Fs w ao len cap l) (k : Nat) (hk : k < len) : ∃ f b off, l[k]? = some f ∧ ao = some ⟨b, off, none⟩ ∧ w.cell? ⟨b, off + k * 2, none⟩ = some (.int .i64 f.L) ∧ w.cell? ⟨b, off + k * 2 + 1, none⟩ = some (.int .i64 f.N) ∧ f.wf := by
  obtain ⟨b, off, e, hc⟩ := h.2.2.2 (by omega)
  obtain ⟨f, hf⟩ : ∃ f, l[k]? = some f := ⟨_, List.getElem?_eq_getElem (by rw [h.1]; exact hk)⟩
  obtain ⟨c0, c1⟩ := hc k f hf
  exact ⟨f, b, off, hf, e, c0, c1, h.2.2.1 f (List.mem_of_getElem? hf)⟩
theorem zs_at {w : World} {ao : Option Addr} {len cap : Nat} {l : List Int} (h : Zs w ao len cap l) (k : Nat) (hk : k < len) : ∃ z b off, l[k]? = some z ∧ ao = some ⟨b, off, none⟩ ∧ w.cell? ⟨b, off + k, none⟩ = some (.int .i64 z) ∧ -9223372036854775808 ≤ z ∧ z ≤ 9223372036854775807 := by
  obtain ⟨b, off, e, hc⟩ := h.2.2.2 (by omega)
  obtain ⟨z, hz⟩ : ∃ z, l[k]? = some z := ⟨_, List.getElem?_eq_getElem (by rw [h.1]; exact hk)⟩
  exact ⟨z, b, off, hz, e, hc k z hz, h.2.2.1 z (List.mem_of_getElem? hz)⟩
structure Ed where
  d : List Int
  a : List Fi
  lg : Int
  fl : Int
  ct : Int
  at9 : Int
  ls : Int
structure Vw where
  lg : Int
  f : List Fi
  fl : Int
  ct : Int
  at9 : Int
  ls : Int
/-- An Edit by value. -/
def edV (da : Option Addr) (dn dc : Nat) (aa : Option Addr) (an ac : Nat) (E : Ed) : Value := .agg #[.slice da dn dc, .slice aa an ac, .int .i64 E.lg, .int .u64 E.fl, .int .u64 E.ct, .int .u64 E.at9, .int .u64 E.ls]
/-- A View by value. -/
def vwV (fa : Option Addr) (fn fc : Nat) (V : Vw) : Value := .agg #[.int .i64 V.lg, .slice fa fn fc, .int .u64 V.fl, .int .u64 V.ct, .int .u64 V.at9, .int .u64 V.ls]
def okN (n : Int) : Bool := decide (1 ≤ n ∧ n ≤ 1073741824)
/-- The numbers of an Edit, and how long its lists are, may be. -/
def edH (E : Ed) : Bool := decide (E.d.length ≤ 40 ∧ E.a.length ≤ 40 ∧ 0 ≤ E.lg ∧ E.lg ≤ 1073741824 ∧ E.fl ≤ 281474976710656 ∧ E.ct ≤ 281474976710656 ∧ E.at9 ≤ 281474976710656 ∧ E.ls ≤ 281474976710656)
/-- The error of Put. -/
def emay (E : Ed) : Int := if (edH E && (E.d.all okN && E.a.all Fi.ok)) = true then 0 else 1
def vwH (V : Vw) : Bool := decide (1 ≤ V.lg ∧ V.lg ≤ 1073741824 ∧ V.f.length ≤ 40 ∧ V.fl ≤ 281474976710656 ∧ V.ct ≤ 281474976710656 ∧ V.at9 ≤ 281474976710656 ∧ V.ls ≤ 281474976710656)
/-- No number twice. -/
def once : List Fi → Bool
  | [] => true
  | f :: r => r.all (fun g => !(g.N == f.N)) && once r
def vok (V : Vw) : Bool := vwH V && (V.f.all Fi.ok && once V.f)

end Go.Proofs.Ytgopcaemgcnapaa.Clep
