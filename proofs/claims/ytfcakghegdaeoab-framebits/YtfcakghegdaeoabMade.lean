/- What the statements' own function made does when called (a walk over the translated program): for any rows, at most ten of them. -/
import Derived.Test.YtfcakghegdaeoabRefFrame
import Derived.Test.YtfcakghegdaeoabFSplit
import Derived.Test.YtfcakghegdaeoabBssOpen
namespace Go.Proofs.Ytfcakghegdaeoab.Clep
open Go.RowKit
set_option linter.unusedVariables false

/-- The kind of frame i. -/
def kn (i : Nat) : Int := ((i * 9 % 100 + 1 : Nat) : Int)
theorem kn_range (i : Nat) : 1 ≤ kn i ∧ kn i ≤ 100 := by unfold kn; omega
theorem kn_int (i : Nat) : (i : Int) * 9 % 100 + 1 = kn i := by unfold kn; omega
/-- The first j frames, one behind the other. -/
def rws (zss : List (List Int)) : Nat → List Int
  | 0 => []
  | j + 1 => rws zss j ++ fr (kn j) (zss.getD j [])
def en (zss : List (List Int)) (j : Nat) : Nat := (rws zss j).length
def okb (zss : List (List Int)) (m : Nat) : Prop := ∀ i, i < m → (zss.getD i []).length ≤ 300
def iends (zss : List (List Int)) (j : Nat) : List Value := (List.range (j + 1)).map fun i => Value.int .i64 (en zss i)
theorem en_succ (zss : List (List Int)) (j : Nat) : en zss (j + 1) = en zss j + ((zss.getD j []).length + 12) := by unfold en; rw [rws, List.length_append, fr_len]
theorem en_le (zss : List (List Int)) (m : Nat) (h : okb zss m) : ∀ j, j ≤ m → en zss j ≤ 312 * j
  | 0, _ => by simp [en, rws]
  | j + 1, hj => by
    have := en_le zss m h j (by omega)
    have := h j (by omega)
    rw [en_succ]; omega
theorem iends_succ (zss : List (List Int)) (j : Nat) : iends zss (j + 1) = iends zss j ++ [Value.int .i64 (en zss (j + 1))] := by
  unfold iends; rw [List.range_succ (n := j + 1), List.map_append]; rfl
theorem rws_range (zss : List (List Int)) (m : Nat) (h : okb zss m) (hb : ∀ i, i < m → ByteL (zss.getD i [])) : ∀ j, j ≤ m → ByteL (rws zss j)
  | 0, _ => by intro z hz; cases hz
  | j + 1, hj => ByteL.append (rws_range zss m h hb j (by omega)) (fr_range _ _ (kn_range j).1 (kn_range j).2 (by have := h j (by omega); omega) (hb j (by omega)))

theorem okb_snoc {zss : List (List Int)} {j : Nat} (h : okb zss j) (hj : (zss.getD j []).length ≤ 300) : okb zss (j + 1) := fun i hi => by
  rcases Nat.lt_or_ge i j with h1 | h1
  · exact h i h1
  · have : i = j := by omega
    subst this; exact hj

set_option maxHeartbeats 800000 in
theorem made_any (ao : Option Addr) (len cap : Nat) (zss : List (List Int)) (M m : Nat) (w : World) (hm : len ≤ 9223372036854775807) (hM : M ≤ 10) (hmin : m = min len M) (h : Bss w ao len cap zss) :
    Calls Try.prog 11 #[.slice ao len cap, .int .i64 M] w fun e w' => Below w.heap.size w w' ∧
      ((okb zss m ∧ ∃ g c, e = .returned (.tuple #[.string (strOfNums (rws zss m)), .slice (some ⟨g, 0, none⟩) (m + 1) c, .bool true]) ∧ ∀ i, i ≤ m → w'.cell? ⟨g, i, none⟩ = some (.int .i64 (en zss i))) ∨
       (¬ okb zss m ∧ e = .returned (.tuple #[.string ⟨#[]⟩, .slice none 0 0, .bool false]))) := by
  obtain ⟨iI, hiI, hzI0, hzI1, hzI2⟩ := info_parts infoI
  have H := hide (fun W (hW : Below w.heap.size w W) => h.below hW (Nat.le_refl _))
  have hmin1 : m ≤ len := by omega
  have hmin2 : m ≤ M := by omega
  have hmin3 : m < len → m < M → False := by omega
  have HM := hide hmin
  have HM3 := hide hmin3
  clear h hmin hmin3
  go_enter Try.func11, Try.ntmps11
  go_wp2
  go_loopw [7, 8, 9] (fun s v i wr => ∃ j : Nat, i = .int .i64 j ∧ j ≤ m ∧ s = .string (strOfNums (rws zss j)) ∧ Hid (wr.ownsRow w.heap.size 3 1 v (j + 1) (iends zss j)) ∧ Hid (Below w.heap.size w wr) ∧ Hid (okb zss j)) (fun _ _ i _ => m - (intOf i).toNat)
  case atStart =>
    refine ⟨0, rfl, by omega, rfl, hide ?_, hide ((Below.refl _ w).alloc (Nat.le_refl _) _), hide (fun i hi => by omega)⟩
    have := World.ownsRow_lit (base := w.heap.size) (e := 3) (size := 1) w #[.int .i64 0] 1 (Nat.le_refl _) (by unfold maxLen; omega) rfl
    simpa [iends, en, rws] using this
  case round =>
    obtain ⟨j, rfl, hj, rfl, hown, hbel, hok⟩ := hrel
    have hen := en_le zss j hok.out j (Nat.le_refl _)
    by_cases hlt : j < m
    · obtain ⟨b, off, rfl, hcell⟩ := (H.out _ hbel.out).2.2 (by omega)
      obtain ⟨a, l, c, hc1, hl1, hbs⟩ := hcell j (by omega)
      have hlen := hbs.1
      have hbr : ByteL (zss.getD j []) := bs_range hbs
      by_cases h3 : 300 < l
      · have HNO := hide (show ¬ okb zss m from fun h => by have := h j hlt; omega)
        have hjl : j < len := by omega
        have hjM : j < M := by omega
        clear hcell hbs
        go_wp2
        refine bodyPost_ret (by simp [results, Try.results11, go_sem]) rfl ⟨hbel.out, .inr ⟨HNO.out, rfl⟩⟩
      · have hjl : j < len := by omega
        have hjM : j < M := by omega
        have HCV := hide (conv_bs hbs)
        have HK := hide (okb_snoc hok.out (by omega))
        have hks := kn_int j
        have cF := hide (fun W => refframe_any (kn j) (strOfNums (zss.getD j [])) (zss.getD j []) W (kn_range j).1 (kn_range j).2 rfl (by omega) hbr)
        have hadd : ∀ W, (Op.stringOp .add (strOfNums (rws zss j)) (strOfNums (fr (kn j) (zss.getD j [])))).run Try.prog W = .ok (.string (strOfNums (rws zss (j + 1)))) W := fun W => by
          rw [show rws zss (j + 1) = rws zss j ++ fr (kn j) (zss.getD j []) from rfl, ← str_app]
          exact run_string_add_sum W _ _ (by rw [str_size, str_size, fr_len]; unfold en at hen; omega)
        have hsz : (strOfNums (rws zss (j + 1))).size = en zss (j + 1) := by rw [str_size]; rfl
        have hes := en_succ zss j
        have hnl : en zss (j + 1) ≤ 312 * (j + 1) := by omega
        clear hcell hbs hbr hes
        generalize hS0 : strOfNums (rws zss j) = S0 at *
        generalize hS1 : strOfNums (rws zss (j + 1)) = S1 at *
        generalize strOfNums (fr (kn j) (zss.getD j [])) = SF at *
        generalize strOfNums (zss.getD j []) = SB at *
        generalize hK1 : kn j = k at *
        have hcv := HCV.out
        go_wp2_with fail
        refine (cF.out _).mono ?_
        rintro e w1 ⟨rfl, hb1⟩
        have HO1 := hide (row_keep hown.out hb1)
        have HB1 := hide (hbel.out.trans (hb1.mono hbel.out.size))
        have HEN := hide (iends_succ zss j)
        clear hb1 hcv HCV cF
        generalize en zss (j + 1) = N at *
        go_wp2_with (first
          | (at_builtin; refine wpList_append_own _ rfl _ _ 28 rfl w.heap.size 3 iI (.int .i64 0) 1 8 Try.underlying28 hiI hzI0 hzI1 hzI2 rfl (by decide) _ _ _ rfl (HO1.out.alloc _) ⟨w1.heap.size, 0, none⟩ 1 1 [.int .i64 N] rfl rfl ?d1 ?d2 ?d3 ?d4 ?d5 ?_)
          | fail)
        case d1 => exact cell_one_new _ _ _
        case d2 => intro u hu; simp at hu; subst hu; rfl
        case d3 => unfold maxLen; omega
        case d4 => omega
        case d5 => have := HB1.out.size; simp; omega
        intro v2 w2 ho2 hg2 _
        have HO2 := hide (show w2.ownsRow w.heap.size 3 1 v2 (j + 1 + 1) (iends zss (j + 1)) from by rw [HEN.out]; exact ho2)
        have bA := HB1.out.alloc HB1.out.size (Obj.cells #[Value.int IntKind.i64 N] 3)
        have HB2 := hide (bA.grown hg2 bA.size (fun k hk => (HO1.out.lt k hk).1))
        clear ho2 hg2 bA HO1 HB1 HEN
        go_wp2
        go_roundw
        case rel => exact ⟨j + 1, by go_num, by omega, by rw [hS1], HO2, HB2, HK⟩
        case measure => simp [intOf]; omega
    · have h8 : j = m := by omega
      subst h8
      have hrow := hown.out
      obtain ⟨hl, ⟨hv, hn⟩ | ⟨g, c, cur, hv, hg, hh, hnc, hcm, hcs, hx⟩⟩ := hrow
      · omega
      · subst hv
        have HCL := hide (fun i (hi : i ≤ j) => show wr.cell? ⟨g, i, none⟩ = some (.int .i64 (en zss i)) from by
          rw [World.ownsRow.cellAt hown.out i (by omega)]
          simp [iends, List.getElem?_range (show i < j + 1 by omega)])
        clear hl hg hh hnc hcm hcs hx
        by_cases hjl : j < len
        · have hjM : ¬ j < M := fun h => HM3.out hjl h
          go_wp2
          refine bodyPost_ret (by simp [results, Try.results11, go_sem]) rfl ⟨hbel.out, .inl ⟨hok.out, g, c, rfl, HCL.out⟩⟩
        · go_wp2
          refine bodyPost_ret (by simp [results, Try.results11, go_sem]) rfl ⟨hbel.out, .inl ⟨hok.out, g, c, rfl, HCL.out⟩⟩

end Go.Proofs.Ytfcakghegdaeoab.Clep
