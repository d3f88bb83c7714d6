/- What lies in memory while frame.Split runs: kinds and bodies of the first frames. No conditions. -/
import Derived.Test.YtfcakghegdaeoabFCount
import Derived.Test.YtfcakghegdaeoabBss
namespace Go.Proofs.Ytfcakghegdaeoab.Clep
open Go.RowKit
set_option linter.unusedVariables false

theorem infoI : (Try.prog.info? 3).map (fun i => (i.zero, i.size, i.bytes)) = some (some (.int .i64 0), 1, 8) := by kernel_rfl
theorem infoB : (Try.prog.info? 22).map (fun i => (i.zero, i.size, i.bytes)) = some (some (.slice none 0 0), 1, 24) := by kernel_rfl

theorem sp_len : ∀ (f : Nat) (X : List Int), (sp f X).1.length ≤ X.length
  | 0, X => by simp [sp]
  | f + 1, X => by
    rw [sp_succ]
    split
    · simp
    · rename_i hx
      split
      · have h := sp_len f (X.drop ((ln X).toNat + 12))
        have hp : 0 < X.length := List.length_pos_iff.2 hx
        rw [List.length_drop] at h
        simp only [List.length_cons]
        omega
      · simp
theorem SP_len (X : List Int) : (SP X).1.length ≤ X.length := sp_len _ X

theorem row_keep {w w' : World} {B e s n : Nat} {v : Value} {xs : List Value} (h : w.ownsRow B e s v n xs) (hb : Below w.heap.size w w') : w'.ownsRow B e s v n xs := by
  obtain ⟨hl, ⟨rfl, hn⟩ | ⟨g, cap, cur, rfl, hg, hh, hnc, hcm, hcs, hx⟩⟩ := h
  · exact ⟨hl, .inl ⟨rfl, hn⟩⟩
  · refine ⟨hl, .inr ⟨g, cap, cur, rfl, hg, ?_, hnc, hcm, hcs, hx⟩⟩
    rw [hb.block g (Array.getElem?_eq_some_iff.1 hh).1]
    exact hh
theorem Bs.grown {w w' : World} {g : Nat} {ao : Option Addr} {len cap : Nat} {zs : List Int} (h : Bs w ao len cap zs) (hg : w.grownBy w' (some g)) (hne : ∀ ad, ao = some ad → ad.block ≠ g) : Bs w' ao len cap zs := by
  refine ⟨h.1, h.2.1, h.2.2.1, fun h0 => ?_⟩
  obtain ⟨b, off, ho, hc⟩ := h.2.2.2 h0
  have hn := hne _ ho
  exact ⟨b, off, ho, fun i hi => hg.cell (hc i hi) (by simpa using hn)⟩

/-- The kinds of the first j frames, as they lie in memory. -/
def ik (F : List (Int × List Int)) (j : Nat) : List Value := (F.take j).map fun x => Value.int .i64 x.1
theorem ik_len (F : List (Int × List Int)) (j : Nat) (h : j ≤ F.length) : (ik F j).length = j := by unfold ik; rw [List.length_map, List.length_take]; omega
theorem ik_succ (F : List (Int × List Int)) (j : Nat) (h : j < F.length) : ik F (j + 1) = ik F j ++ [Value.int .i64 (F.getD j (0, [])).1] := by
  unfold ik
  rw [List.take_succ_eq_append_getElem h, List.map_append]
  simp [List.getD, List.getElem?_eq_getElem h]
def Kin (w : World) (R Kb j n : Nat) (F : List (Int × List Int)) : Prop := w.ownsRow R 3 1 (.slice (some ⟨Kb, 0, none⟩) j n) j (ik F j)
/-- The bodies of the first j frames, as they lie in memory. -/
def Bod (w : World) (R Gb j n : Nat) (F : List (Int × List Int)) : Prop := ∃ vs : List Value, w.ownsRow R 22 1 (.slice (some ⟨Gb, 0, none⟩) j n) j vs ∧
  ∀ i, i < j → ∃ a l c, vs[i]? = some (.slice a l c) ∧ l ≤ 9223372036854775807 ∧ Bs w a l c (F.getD i (0, [])).2 ∧ ∀ ad, a = some ad → Gb < ad.block
theorem Kin.below {w w' : World} {R Kb j n : Nat} {F : List (Int × List Int)} (h : Kin w R Kb j n F) (hb : Below w.heap.size w w') : Kin w' R Kb j n F := row_keep h hb
theorem Kin.grown {w w' : World} {R Kb j n g : Nat} {F : List (Int × List Int)} (h : Kin w R Kb j n F) (hg : w.grownBy w' (some g)) (hne : Kb ≠ g) : Kin w' R Kb j n F :=
  World.ownsRow.kept h hg (.inr (by simp [Value.ownBlock]; exact hne))
theorem Bod.below {w w' : World} {R Gb j n : Nat} {F : List (Int × List Int)} (h : Bod w R Gb j n F) (hb : Below w.heap.size w w') : Bod w' R Gb j n F := by
  obtain ⟨vs, h1, h2⟩ := h
  refine ⟨vs, row_keep h1 hb, fun i hi => ?_⟩
  obtain ⟨a, l, c, k1, k2, k3, k4⟩ := h2 i hi
  exact ⟨a, l, c, k1, k2, k3.below hb (Nat.le_refl _), k4⟩
theorem Bod.grown {w w' : World} {R Gb j n g : Nat} {F : List (Int × List Int)} (h : Bod w R Gb j n F) (hg : w.grownBy w' (some g)) (hne : g < Gb) : Bod w' R Gb j n F := by
  obtain ⟨vs, h1, h2⟩ := h
  refine ⟨vs, World.ownsRow.kept h1 hg (.inr (by simp [Value.ownBlock]; omega)), fun i hi => ?_⟩
  obtain ⟨a, l, c, k1, k2, k3, k4⟩ := h2 i hi
  exact ⟨a, l, c, k1, k2, k3.grown hg (fun ad ha => by have := k4 ad ha; omega), k4⟩

end Go.Proofs.Ytfcakghegdaeoab.Clep
