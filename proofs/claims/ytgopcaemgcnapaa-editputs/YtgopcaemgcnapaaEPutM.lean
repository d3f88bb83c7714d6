/- What is put is read: the bytes of an Edit that may be are that Edit's. No conditions. -/
import Derived.Test.YtgopcaemgcnapaaERdMath
import Derived.Test.YtgopcaemgcnapaaEBodyW
import Derived.Test.YtgopcaemgcnapaaFMath
namespace Go.Proofs.Ytgopcaemgcnapaa.Clep
open Go.RowKit
set_option linter.unusedVariables false
set_option maxRecDepth 10000

theorem stN_flat (ns t : List Int) (h : ∀ z ∈ ns, 0 ≤ z ∧ z ≤ 18446744073709551615) : ∀ j, j ≤ ns.length → stN (ns.flatMap pu ++ t, false) j = ((ns.drop j).flatMap pu ++ t, false)
  | 0, _ => by simp [stN]
  | j + 1, hj => by
    have ih := stN_flat ns t h j (by omega)
    unfold stN
    rw [ih]
    have hjl : j < ns.length := by omega
    rw [List.drop_eq_getElem_cons hjl, List.flatMap_cons, List.append_assoc]
    have hz := h ns[j] (List.getElem_mem hjl)
    unfold rt
    simp only
    rw [tk_pu _ _ hz.1 hz.2]
    simp
theorem nr_flat (ns t : List Int) (h : ∀ z ∈ ns, 0 ≤ z ∧ z ≤ 18446744073709551615) (j : Nat) (hj : j < ns.length) : nr (ns.flatMap pu ++ t, false) j = ns[j] := by
  unfold nr
  rw [stN_flat ns t h j (by omega), List.drop_eq_getElem_cons hj, List.flatMap_cons, List.append_assoc]
  have hz := h ns[j] (List.getElem_mem hj)
  unfold rt
  simp only
  rw [tk_pu _ _ hz.1 hz.2]
  simp
def flatF (a : List Fi) : List Int := a.flatMap (fun f => [f.L, f.N])
theorem flatF_len : ∀ a : List Fi, (flatF a).length = 2 * a.length
  | [] => rfl
  | f :: r => by
    have := flatF_len r
    unfold flatF at this ⊢
    simp only [List.flatMap_cons, List.length_append, List.length_cons, List.length_nil]
    omega
theorem flatF_at : ∀ (a : List Fi) (i : Nat) (f : Fi), a[i]? = some f → (flatF a)[2 * i]? = some f.L ∧ (flatF a)[2 * i + 1]? = some f.N
  | [], i, f, h => by simp at h
  | g :: r, 0, f, h => by
    simp at h
    subst h
    exact ⟨rfl, rfl⟩
  | g :: r, i + 1, f, h => by
    simp at h
    have := flatF_at r i f h
    unfold flatF at this ⊢
    rw [List.flatMap_cons, show 2 * (i + 1) = (2 * i) + 2 from by omega]
    exact this
theorem fbs_flat : ∀ a : List Fi, fbs a = (flatF a).flatMap pu
  | [] => rfl
  | f :: r => by
    have := fbs_flat r
    unfold fbs flatF at this ⊢
    simp only [List.flatMap_cons, List.flatMap_append]
    rw [this]
    simp
theorem ebd_read {E : Ed} (hm : emay E = 0) (hu : 0 ≤ E.fl ∧ 0 ≤ E.ct ∧ 0 ≤ E.at9 ∧ 0 ≤ E.ls) : red (ebd E) = some E := by
  have hp := emay_parts hm
  have hul : ul (ebd E) 40 = (E.d, ((li E.d).length : Int), 0) := by
    unfold ebd
    exact ul_whole E.d _ (urange_of fun z hz => by have := hp.2.1 z hz; omega) (by omega) 40 (by omega)
  have hs0 : s0X (ebd E) = (pu (E.a.length : Int) ++ (fbs E.a ++ rest [E.lg, E.fl, E.ct, E.at9, E.ls] 0), false) := by
    unfold s0X
    rw [hul]
    simp only [Int.toNat_natCast]
    unfold ebd
    rw [List.drop_left]
  have hrt : rt (s0X (ebd E)) = ((E.a.length : Int), (fbs E.a ++ rest [E.lg, E.fl, E.ct, E.at9, E.ls] 0, false)) := by
    rw [hs0]
    unfold rt
    simp only
    rw [tk_pu _ _ (by omega) (by omega)]
    simp
  have hc : cX (ebd E) = (E.a.length : Int) := by unfold cX; rw [hrt]
  obtain ⟨ns, hns⟩ : ∃ ns, flatF E.a ++ [E.lg, E.fl, E.ct, E.at9, E.ls] = ns := ⟨_, rfl⟩
  have hs1 : s1X (ebd E) = (ns.flatMap pu ++ [], false) := by
    unfold s1X
    rw [hrt, ← hns, List.flatMap_append, fbs_flat, List.append_nil]
    rfl
  have hnr : ∀ z ∈ ns, 0 ≤ z ∧ z ≤ 18446744073709551615 := by
    rw [← hns]
    intro z hz
    rcases List.mem_append.1 hz with h | h
    · obtain ⟨f, hf, h⟩ := List.mem_flatMap.1 h
      have := hp.2.2.1 f hf
      simp at h
      rcases h with rfl | rfl <;> omega
    · simp at h
      omega
  have hnl : ns.length = 2 * E.a.length + 5 := by rw [← hns, List.length_append, flatF_len]; rfl
  have hn : ∀ j v, ns[j]? = some v → nr (s1X (ebd E)) j = v := fun j v hv => by
    obtain ⟨hj, rfl⟩ := List.getElem?_eq_some_iff.1 hv
    rw [hs1, nr_flat ns [] hnr j hj]
  have hst : stN (s1X (ebd E)) (2 * E.a.length + 5) = ([], false) := by
    rw [hs1, stN_flat ns [] hnr _ (by omega), List.drop_eq_nil_of_le (by omega)]
    rfl
  have hfive : ∀ j v, [E.lg, E.fl, E.ct, E.at9, E.ls][j]? = some v → ns[2 * E.a.length + j]? = some v := fun j v hv => by
    rw [← hns, List.getElem?_append_right (by rw [flatF_len]; omega), flatF_len, show 2 * E.a.length + j - 2 * E.a.length = j from by omega]
    exact hv
  have hraw : rawE (ebd E) = E := by
    have hfx : fX (ebd E) E.a.length = E.a := by
      apply List.ext_getElem?
      intro i
      by_cases hi : i < E.a.length
      · have hf : E.a[i]? = some E.a[i] := List.getElem?_eq_getElem hi
        have h2 := flatF_at E.a i _ hf
        have e1 : ns[2 * i]? = some E.a[i].L := by rw [← hns, List.getElem?_append_left (by rw [flatF_len]; omega)]; exact h2.1
        have e2 : ns[2 * i + 1]? = some E.a[i].N := by rw [← hns, List.getElem?_append_left (by rw [flatF_len]; omega)]; exact h2.2
        unfold fX
        rw [List.getElem?_map, List.getElem?_range hi, hf]
        simp only [Option.map_some]
        rw [hn _ _ e1, hn _ _ e2]
      · rw [List.getElem?_eq_none (by rw [fX_len]; omega), List.getElem?_eq_none (by omega)]
    unfold rawE
    rw [hul, hc]
    simp only [Int.toNat_natCast]
    rw [hfx, hn (2 * E.a.length) _ (hfive 0 _ rfl), hn _ _ (hfive 1 _ rfl), hn _ _ (hfive 2 _ rfl), hn _ _ (hfive 3 _ rfl), hn _ _ (hfive 4 _ rfl)]
  unfold red
  rw [hraw, (mayB_iff E).2 hm]
  have hok : okR (ebd E) = true := by
    unfold okR
    rw [hul, hc]
    simp only [Int.toNat_natCast, hst]
    simp
    omega
  rw [hok]
  rfl
theorem ebd_range {E : Ed} (hm : emay E = 0) (hu : 0 ≤ E.fl ∧ 0 ≤ E.ct ∧ 0 ≤ E.at9 ∧ 0 ≤ E.ls) : ByteL (ebd E) := by
  have hp := emay_parts hm
  unfold ebd
  refine bytel_app (li_range E.d (urange_of fun z hz => by have := hp.2.1 z hz; omega) (by omega)) (bytel_app (pu_range _ (by omega) (by omega)) (bytel_app (fbs_range E.a hp.2.2.1) ?_))
  have := rows_range [E.lg, E.fl, E.ct, E.at9, E.ls] (urange_of fun z hz => by simp at hz; omega) 5
  rw [rows_all _ 5 (by simp)] at this
  exact this
theorem fr_body (ys : List Int) (hn : ys.length ≤ 60000) : ((fr 6 ys).take (8 + ys.length)).drop 8 = ys := by
  have h1 := fr_ln 6 ys [] hn
  have h2 := fr_bo 6 ys [] hn
  rw [List.append_nil] at h1 h2
  have := bo_cut (fr 6 ys) 0 ys.length (by rw [List.drop_zero, h1]; simp)
  rw [List.drop_zero, h2] at this
  simpa using this

end Go.Proofs.Ytgopcaemgcnapaa.Clep
