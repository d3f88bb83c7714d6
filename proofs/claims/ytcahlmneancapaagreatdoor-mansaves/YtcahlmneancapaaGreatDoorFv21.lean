/- What is put is read: the bytes of an Edit that may be are that Edit's. No conditions. -/
import Derived.Test.YtcahlmneancapaaGreatDoorFv20
import Derived.Test.YtcahlmneancapaaGreatDoorFv17
import Derived.Test.YtcahlmneancapaaGreatDoorFv16
import Derived.Test.YtcahlmneancapaaGreatDoorFv12
import Derived.Test.YtcahlmneancapaaGreatDoorFv13
namespace Go.Proofs.YtcahlmneancapaaGreatDoor.Clep
open Go.RowKit
set_option linter.unusedVariables false
set_option maxRecDepth 10000

theorem stN_flat (ns t : List Int) (h : ∀ z ∈ ns, 0 ≤ z ∧ z ≤ 18446744073709551615) : ∀ j, j ≤ ns.length → stN (ns.flatMap pu ++ t, false) j = ((ns.drop j).flatMap pu ++ t, false)
  | 0, _ => by simp [stN]
  | j + 1, hj => by
    have ih := stN_flat ns t h j (by omega)
    unfold stN
    rw [ih]
    have hjl : j < ns.length := by omega
    rw [List.drop_eq_getElem_cons hjl, List.flatMap_cons, List.append_assoc]
    have hz := h ns[j] (List.getElem_mem hjl)
    unfold rt
    simp only
    rw [tk_pu _ _ hz.1 hz.2]
    simp
theorem nr_flat (ns t : List Int) (h : ∀ z ∈ ns, 0 ≤ z ∧ z ≤ 18446744073709551615) (j : Nat) (hj : j < ns.length) : nr (ns.flatMap pu ++ t, false) j = ns[j] := by
  unfold nr
  rw [stN_flat ns t h j (by omega), List.drop_eq_getElem_cons hj, List.flatMap_cons, List.append_assoc]
  have hz := h ns[j] (List.getElem_mem hj)
  unfold rt
  simp only
  rw [tk_pu _ _ hz.1 hz.2]
  simp
def flatF (a : List Fi) : List Int := a.flatMap (fun f => [f.L, f.N])
theorem flatF_len : ∀ a : List Fi, (flatF a).length = 2 * a.length
  | [] => rfl
  | f :: r => by
    have := flatF_len r
    unfold flatF at this ⊢
    simp only [List.flatMap_cons, List.length_append, List.length_cons, List.length_nil]
    omega
theorem flatF_at : ∀ (a : List Fi) (i : Nat) (f : Fi), a[i]? = some f → (flatF a)[2 * i]? = some f.L ∧ (flatF a)[2 * i + 1]? = some f.N
  | [], i, f, h => by simp at h
  | g :: r, 0, f, h => by
    simp at h
    subst h
    exact ⟨rfl, rfl⟩
  | g :: r, i + 1, f, h => by
    simp at h
    have := flatF_at r i f h
    unfold flatF at this ⊢
    rw [List.flatMap_cons, show 2 * (i + 1) = (2 * i) + 2 from by omega]
    exact this
theorem fbs_flat : ∀ a : List Fi, fbs a = (flatF a).flatMap pu
  | [] => rfl
  | f :: r => by
    have := fbs_flat r
    unfold fbs flatF at this ⊢
    simp only [List.flatMap_cons, List.flatMap_append]
    rw [this]
    simp
theorem ebd_read {E : Ed} (hm : emay E = 0) (hu : 0 ≤ E.fl ∧ 0 ≤ E.ct ∧ 0 ≤ E.at9 ∧ 0 ≤ E.ls) : red (ebd E) = some E := by
  have hp := emay_parts hm
  have hul : ul (ebd E) 40 = (E.d, ((li E.d).length : Int), 0) := by
    unfold ebd
    exact ul_whole E.d _ (urange_of fun z hz => by have := hp.2.1 z hz; omega) (by omega) 40 (by omega)
  have hs0 : s0X (ebd E) = (pu (E.a.length : Int) ++ (fbs E.a ++ rest [E.lg, E.fl, E.ct, E.at9, E.ls] 0), false) := by
    unfold s0X
    rw [hul]
    simp only [Int.toNat_natCast]
    unfold ebd
    rw [List.drop_left]
  have hrt : rt (s0X (ebd E)) = ((E.a.length : Int), (fbs E.a ++ rest [E.lg, E.fl, E.ct, E.at9, E.ls] 0, false)) := by
    rw [hs0]
    unfold rt
    simp only
    rw [tk_pu _ _ (by omega) (by omega)]
    simp
  have hc : cX (ebd E) = (E.a.length : Int) := by unfold cX; rw [hrt]
  obtain ⟨ns, hns⟩ : ∃ ns, flatF E.a ++ [E.lg, E.fl, E.ct, E.at9, E.ls] = ns := ⟨_, rfl⟩
  have hs1 : s1X (ebd E) = (ns.flatMap pu ++ [], false) := by
    unfold s1X
    rw [hrt, ← hns, List.flatMap_append, fbs_flat, List.append_nil]
    rfl
  have hnr : ∀ z ∈ ns, 0 ≤ z ∧ z ≤ 18446744073709551615 := by
    rw [← hns]
    intro z hz
    rcases List.mem_append.1 hz with h | h
    · obtain ⟨f, hf, h⟩ := List.mem_flatMap.1 h
      have := hp.2.2.1 f hf
      simp at h
      rcases h with rfl | rfl <;> omega
    · simp at h
      omega
  have hnl : ns.length = 2 * E.a.length + 5 := by rw [← hns, List.length_append, flatF_len]; rfl
  have hn : ∀ j v, ns[j]? = some v → nr (s1X (ebd E)) j = v := fun j v hv => by
    obtain ⟨hj, rfl⟩ := List.getElem?_eq_some_iff.1 hv
    rw [hs1, nr_flat ns [] hnr j hj]
  have hst : stN (s1X (ebd E)) (2 * E.a.length + 5) = ([], false) := by
    rw [hs1, stN_flat ns [] hnr _ (by omega), List.drop_eq_nil_of_le (by omega)]
    rfl
  have hfive : ∀ j v, [E.lg, E.fl, E.ct, E.at9, E.ls][j]? = some v → ns[2 * E.a.length + j]? = some v := fun j v hv => by
    rw [← hns, List.getElem?_append_right (by rw [flatF_len]; omega), flatF_len, show 2 * E.a.length + j - 2 * E.a.length = j from by omega]
    exact hv
  have hraw : rawE (ebd E) = E := by
    have hfx : fX (ebd E) E.a.length = E.a := by
      apply List.ext_getElem?
      intro i
      by_cases hi : i < E.a.length
      · have hf : E.a[i]? = some E.a[i] := List.getElem?_eq_getElem hi
        have h2 := flatF_at E.a i _ hf
        have e1 : ns[2 * i]? = some E.a[i].L := by rw [← hns, List.getElem?_append_left (by rw [flatF_len]; omega)]; exact h2.1
        have e2 : ns[2 * i + 1]? = some E.a[i].N := by rw [← hns, List.getElem?_append_left (by rw [flatF_len]; omega)]; exact h2.2
        unfold fX
        rw [List.getElem?_map, List.getElem?_range hi, hf]
        simp only [Option.map_some]
        rw [hn _ _ e1, hn _ _ e2]
      · rw [List.getElem?_eq_none (by rw [fX_len]; omega), List.getElem?_eq_none (by omega)]
    unfold rawE
    rw [hul, hc]
    simp only [Int.toNat_natCast]
    rw [hfx, hn (2 * E.a.length) _ (hfive 0 _ rfl), hn _ _ (hfive 1 _ rfl), hn _ _ (hfive 2 _ rfl), hn _ _ (hfive 3 _ rfl), hn _ _ (hfive 4 _ rfl)]
  unfold red
  rw [hraw, (mayB_iff E).2 hm]
  have hok : okR (ebd E) = true := by
    unfold okR
    rw [hul, hc]
    simp only [Int.toNat_natCast, hst]
    simp
    omega
  rw [hok]
  rfl
theorem ebd_range {E : Ed} (hm : emay E = 0) (hu : 0 ≤ E.fl ∧ 0 ≤ E.ct ∧ 0 ≤ E.at9 ∧ 0 ≤ E.ls) : ByteL (ebd E) := by
  have hp := emay_parts hm
  unfold ebd
  refine bytel_app (li_range E.d (urange_of fun z hz => by have := hp.2.1 z hz; omega) (by omega)) (bytel_app (pu_range _ (by omega) (by omega)) (bytel_app (fbs_range E.a hp.2.2.1) ?_))
  have := rows_range [E.lg, E.fl, E.ct, E.at9, E.ls] (urange_of fun z hz => by simp at hz; omega) 5
  rw [rows_all _ 5 (by simp)] at this
  exact this
theorem fr_body (ys : List Int) (hn : ys.length ≤ 60000) : ((fr 6 ys).take (8 + ys.length)).drop 8 = ys := by
  have h1 := fr_ln 6 ys [] hn
  have h2 := fr_bo 6 ys [] hn
  rw [List.append_nil] at h1 h2
  have := bo_cut (fr 6 ys) 0 ys.length (by rw [List.drop_zero, h1]; simp)
  rw [List.drop_zero, h2] at this
  simpa using this

end Go.Proofs.YtcahlmneancapaaGreatDoor.Clep

/- What edit.Put does when called (a walk over the translated program): for any Edit. -/
namespace Go.Proofs.YtcahlmneancapaaGreatDoor.Clep
open Go.RowKit
set_option linter.unusedVariables false
set_option maxRecDepth 10000

/-- What Put returns. -/
def PutR (E : Ed) (zs : List Int) (w : World) (e : Ending) (w' : World) : Prop := (if emay E = 0 then ∃ v, e = .returned (.tuple #[v, .int .i64 0]) ∧ Own w' w.heap.size v (zs ++ fr 6 (ebd E)) else e = .returned (.tuple #[.slice none 0 0, .int .i64 1])) ∧ Below w.heap.size w w'
set_option maxHeartbeats 1000000 in
theorem eput_any (a0 : Option Addr) (n0 c0 : Nat) (zs : List Int) (da : Option Addr) (dn dc : Nat) (aa : Option Addr) (an ac : Nat) (E : Ed) (w : World) (h0 : Bs w a0 n0 c0 zs) (hn0 : n0 ≤ 1000000) (hd : Zs w da dn dc E.d) (ha : Fs w aa an ac E.a) (hdn : dn ≤ 9223372036854775807) (han : an ≤ 9223372036854775807) (hu : 0 ≤ E.fl ∧ 0 ≤ E.ct ∧ 0 ≤ E.at9 ∧ 0 ≤ E.ls) :
    Calls Tryz.prog 38 #[.slice a0 n0 c0, edV da dn dc aa an ac E] w (PutR E zs w) := by
  have HRB := hide (show ∀ W, ¬ emay E = 0 → Below w.heap.size w W → PutR E zs w (.returned (.tuple #[.slice none 0 0, .int .i64 1])) W from fun W h1 h2 => ⟨by rw [if_neg h1], h2⟩)
  have HRG := hide (show ∀ W v, emay E = 0 → Own W w.heap.size v (zs ++ fr 6 (ebd E)) → Below w.heap.size w W → PutR E zs w (.returned (.tuple #[v, .int .i64 0])) W from fun W v h1 h2 h3 => ⟨by rw [if_pos h1]; exact ⟨v, rfl, h2⟩, h3⟩)
  generalize PutR E zs w = RR at *
  have CM := hide (fun W (hW : Below w.heap.size w W) => maybe_any da dn dc aa an ac E W (hd.below hW (Nat.le_refl _)) (ha.below hW (Nat.le_refl _)) hdn han)
  have CB := hide (fun W (hW : Below w.heap.size w W) (hm : emay E = 0) => bodyof_any da dn dc aa an ac E W (hd.below hW (Nat.le_refl _)) (ha.below hW (Nat.le_refl _)) hm hu)
  have HB := hide (fun W (hW : Below w.heap.size w W) => h0.below hW (Nat.le_refl _))
  have HM := hide (mayB_iff E)
  have HL := hide (fun hm : emay E = 0 => ebd_len hm)
  have HBR := hide (fun hm : emay E = 0 => ebd_range hm hu)
  generalize mayB E = M at *
  generalize emay E = m at *
  generalize ebd E = Y at *
  obtain ⟨d, a, lg, fl, ct, at9, ls⟩ := E
  unfold edV
  unfold edV at CM CB
  simp only at CM CB ⊢
  clear hd ha hu h0
  have A0 := (Below.refl w.heap.size w).alloc (Nat.le_refl _) (Obj.cells #[.slice da dn dc, .slice aa an ac, .int .i64 lg, .int .u64 fl, .int .u64 ct, .int .u64 at9, .int .u64 ls] 34)
  have HB0 := hide A0
  have HK := hide (ek_new w #[.slice da dn dc, .slice aa an ac, .int .i64 lg, .int .u64 fl, .int .u64 ct, .int .u64 at9, .int .u64 ls] 34)
  clear A0
  go_enter Tryz.func38, Tryz.ntmps38
  go_wp2_with fail
  refine (CM.out _ HB0.out).mono ?_
  rintro e w1 ⟨rfl, hb1⟩
  have HB1 := hide (HB0.out.trans (hb1.mono HB0.out.size))
  have hk := HK.out.below hb1 HK.out.lt
  clear CM hb1 HB0 HK
  cases M with
  | false =>
    have hm : ¬ m = 0 := fun e => by have := HM.out.2 e; cases this
    have HE := hide hm
    clear hk hm CB HM HL HBR
    go_wp2
    exact HRB.out _ HE.out HB1.out
  | true =>
    have hm : m = 0 := HM.out.1 rfl
    have HE := hide hm
    have k0 : w1.cell? ⟨w.heap.size, 0, none⟩ = some (.slice da dn dc) := hk.cell rfl
    have k1 : w1.cell? ⟨w.heap.size, 1, none⟩ = some (.slice aa an ac) := hk.cell rfl
    have k2 : w1.cell? ⟨w.heap.size, 2, none⟩ = some (.int .i64 lg) := hk.cell rfl
    have k3 : w1.cell? ⟨w.heap.size, 3, none⟩ = some (.int .u64 fl) := hk.cell rfl
    have k4 : w1.cell? ⟨w.heap.size, 4, none⟩ = some (.int .u64 ct) := hk.cell rfl
    have k5 : w1.cell? ⟨w.heap.size, 5, none⟩ = some (.int .u64 at9) := hk.cell rfl
    have k6 : w1.cell? ⟨w.heap.size, 6, none⟩ = some (.int .u64 ls) := hk.cell rfl
    have CB1 := hide (CB.out w1 HB1.out hm)
    have hYl := HL.out hm
    have HYR := hide (HBR.out hm)
    clear hk hm CB HM HL HBR
    go_wp2_with fail
    refine CB1.out.mono ?_
    rintro e w2 ⟨v2, rfl, ho2, hb2⟩
    obtain ⟨a2, c2, rfl, _, hbs2, _⟩ := own_bs ho2 (range_of HYR.out)
    obtain ⟨n2, hn2⟩ : ∃ n, Y.length = n := ⟨_, rfl⟩
    rw [hn2] at hbs2 hYl ⊢
    have HB2 := hide (HB1.out.trans (hb2.mono HB1.out.size))
    have CF := hide (fput_any a0 a2 n0 c0 n2 c2 zs Y 6 w2 (by omega) (by omega) (by omega) (by omega) (HB.out w2 HB2.out) hbs2)
    clear CB1 ho2 hb2 hbs2 hn2 k0 k1 k2 k3 k4 k5 k6
    go_wp2_with fail
    refine CF.out.mono ?_
    rintro e w3 ⟨v3, rfl, ho3, hb3⟩
    have HB3 := hide (HB2.out.trans (hb3.mono HB2.out.size))
    have HO3 := hide (own_base9 ho3 HB2.out.size)
    clear CF ho3 hb3
    go_wp2
    exact HRG.out _ v3 HE.out HO3.out HB3.out

end Go.Proofs.YtcahlmneancapaaGreatDoor.Clep

/- What the reader of package edit, small and smalls do when called (walks over the translated program). -/
namespace Go.Proofs.YtcahlmneancapaaGreatDoor.Clep
open Go.RowKit
set_option linter.unusedVariables false
set_option maxRecDepth 10000

theorem Bs.gb {w w' : World} {row : Option Nat} {ao : Option Addr} {len cap : Nat} {zs : List Int} (h : Bs w ao len cap zs) (hg : w.grownBy w' row) (hne : 0 < len → ∀ a, ao = some a → some a.block ≠ row) : Bs w' ao len cap zs := by
  refine ⟨h.1, h.2.1, h.2.2.1, fun h0 => ?_⟩
  obtain ⟨b, off, ho, hc⟩ := h.2.2.2 h0
  exact ⟨b, off, ho, fun i hi => gb_cells hg (World.block_lt_of_cell? w _ (hc i hi)) (hne h0 ⟨b, off, none⟩ ho) _ _ (hc i hi)⟩
/-- The reader in block R: what is left, and whether a number was refused. The bytes lie below B. -/
def Rdr (W : World) (B R : Nat) (s : List Int × Bool) : Prop := ∃ ao n c, Ek W R #[.slice ao n c, .bool s.2] 237 ∧ Bs W ao n c s.1 ∧ c ≤ 9223372036854775807 ∧ (0 < n → ∀ a, ao = some a → a.block < B) ∧ B ≤ R
theorem Rdr.lt {W : World} {B R : Nat} {s : List Int × Bool} (h : Rdr W B R s) : R < W.heap.size := by
  obtain ⟨ao, n, c, h1, _⟩ := h
  exact h1.lt
theorem Rdr.gb {W W' : World} {B R : Nat} {s : List Int × Bool} {row : Option Nat} (h : Rdr W B R s) (hg : W.grownBy W' row) (hne : some R ≠ row) (hB : ∀ k, row = some k → B ≤ k) : Rdr W' B R s := by
  obtain ⟨ao, n, c, h1, h2, h3, h4, h5⟩ := h
  refine ⟨ao, n, c, h1.gb hg hne, h2.gb hg (fun h0 a ha e => ?_), h3, h4, h5⟩
  have := h4 h0 a ha
  have := hB _ e.symm
  omega
theorem Rdr.keep {W W' : World} {B R : Nat} {s : List Int × Bool} (h : Rdr W B R s) (hb : Below W.heap.size W W') : Rdr W' B R s := h.gb (fgb_below hb none) (by simp) (by simp)
theorem ecut_block {a : Option Addr} {cap l B : Nat} (h : ∀ x, a = some x → x.block < B) : ∀ x, cut a cap l = some x → x.block < B := by
  intro x hx
  unfold cut at hx
  split at hx
  · exact h x hx
  · cases a with
    | none => cases hx
    | some y =>
      simp at hx
      subst hx
      have := h y rfl
      unfold Addr.add
      split <;> exact this

section
attribute [local go_sem ↓] cut_l
set_option maxHeartbeats 400000 in
theorem rdtake_any (B R : Nat) (s : List Int × Bool) (W : World) (h : Rdr W B R s) (hl : s.1.length ≤ 1000000) :
    Calls Tryz.prog 176 #[.pointer (some ⟨R, 0, none⟩)] W fun e w' => e = .returned (.int .u64 (rt s).1) ∧ Rdr w' B R (rt s).2 ∧ W.grownBy w' (some R) := by
  obtain ⟨X, r⟩ := s
  obtain ⟨ao, n, c, h1, h2, h3, h4, h5⟩ := h
  simp only at h1 h2 hl
  have hn := h2.1
  have CT := hide (take_any ao n c X W (by omega) h2)
  have hsz := tk_size X 0 0 (by omega)
  have HRT := hide (show rt (X, r) = if (tk X 0 0).2.2 = 0 then ((tk X 0 0).1, (X.drop (tk X 0 0).2.1.toNat, r)) else (0, (X, true)) from rfl)
  obtain ⟨x, sz, e, ht⟩ : ∃ x sz e, tk X 0 0 = (x, sz, e) := ⟨_, _, _, rfl⟩
  rw [ht] at CT HRT hsz
  unfold tup at CT
  simp only at CT HRT hsz
  have k0 : W.cell? ⟨R, 0, none⟩ = some (.slice ao n c) := h1.cell rfl
  have k1 : W.cell? ⟨R, 1, none⟩ = some (.bool r) := h1.cell rfl
  have f0 := h1.free 0
  have f1 := h1.free 1
  have H1 := hide h1
  have H2 := hide h2
  have H4 := hide h4
  clear h1 h2 h4 ht
  by_cases he : e = 0
  · subst he
    have HR := hide (show rt (X, r) = (x, (X.drop sz.toNat, r)) by rw [HRT.out, if_pos rfl])
    have hs0 : 0 ≤ sz := hsz.1
    have hs1 : sz ≤ (n : Int) := by omega
    rw [HR.out]
    clear HRT HR hsz
    go_enter Tryz.func176, Tryz.ntmps176
    go_wp2_with fail
    refine CT.out.mono ?_
    rintro en w1 ⟨rfl, hw1⟩
    subst hw1
    clear CT
    go_wp2
    go_ret
    have hg := fgb_set w1 ⟨R, 0, none⟩ (.slice (cut ao c sz.toNat) (n - sz.toNat) (c - sz.toNat))
    have hcut := H2.out.cut sz.toNat n (by omega) (Nat.le_refl _)
    rw [List.take_of_length_le (by omega)] at hcut
    refine ⟨rfl, ⟨_, _, _, H1.out.set 0 _, hcut.gb hg (fun h0 a ha e => ?_), by omega, fun h0 a ha => ?_, h5⟩, hg⟩
    · have h6 : a.block = R := Option.some.inj e
      have := ecut_block (H4.out (by omega)) a ha
      omega
    · exact ecut_block (H4.out (by omega)) a ha
  · have HR := hide (show rt (X, r) = (0, (X, true)) by rw [HRT.out, if_neg he])
    have q : (e != 0) = true := by simpa using he
    rw [HR.out]
    clear HRT HR hsz he
    go_enter Tryz.func176, Tryz.ntmps176
    go_wp2_with fail
    refine CT.out.mono ?_
    rintro en w1 ⟨rfl, hw1⟩
    subst hw1
    clear CT
    go_wp2
    go_ret
    have hg := fgb_set w1 ⟨R, 1, none⟩ (.bool true)
    refine ⟨rfl, ⟨ao, n, c, H1.out.set 1 _, H2.out.gb hg (fun h0 a ha e => ?_), h3, H4.out, h5⟩, hg⟩
    have h6 : a.block = R := Option.some.inj e
    have := H4.out h0 a ha
    omega
end
theorem small_any (n : Int) (w : World) (h0 : 0 ≤ n) : Calls Tryz.prog 177 #[.int .u64 n] w fun e w' => e = .returned (.int .i64 (sm n)) ∧ w' = w := by
  by_cases h : 1073741824 < n
  · have hs : sm n = -1 := by unfold sm; rw [if_pos h]
    rw [hs]
    go_enter Tryz.func177, Tryz.ntmps177
    go_wp2
    go_ret
    exact ⟨rfl, rfl⟩
  · have hs : sm n = n := sm_id (by omega)
    have hwr : IntKind.i64.wrap n = n := by
      simp [IntKind.wrap, IntKind.bits, IntKind.signed]
      omega
    rw [hs]
    go_enter Tryz.func177, Tryz.ntmps177
    go_wp2
    go_ret
    exact ⟨rfl, rfl⟩
set_option maxHeartbeats 400000 in
theorem smalls_any (v : Value) (ns : List Int) (B : Nat) (w : World) (h : OwnU w B v ns) (hr : ∀ z ∈ ns, 0 ≤ z ∧ z ≤ 18446744073709551615) (hl : ns.length ≤ 40) :
    Calls Tryz.prog 175 #[v] w fun e w' => ∃ v', e = .returned v' ∧ OwnZ w' w.heap.size v' (ns.map sm) ∧ Below w.heap.size w w' := by
  obtain ⟨ao, cap, rfl, hus⟩ := ownU_us h hr
  obtain ⟨n, hn⟩ : ∃ n, ns.length = n := ⟨_, rfl⟩
  rw [hn] at hus hl ⊢
  have HU := hide (fun W (hW : Below w.heap.size w W) => hus.below hW (Nat.le_refl _))
  have HR := hide hr
  have HS := hide small_any
  clear h hus hr
  go_enter Tryz.func175, Tryz.ntmps175
  go_wp2_with fail
  go_loopw [3, 8] (fun v s wr => ∃ k : Nat, k ≤ n ∧ s = .int .i64 k ∧ Hid (OwnZ wr w.heap.size v ((ns.take k).map sm)) ∧ Hid (Below w.heap.size w wr)) (fun _ s _ => n - (intOf s).toNat)
  case atStart => exact ⟨0, by omega, rfl, hide (ownZ_nil _ _), hide (Below.refl _ _)⟩
  case round =>
    obtain ⟨k, hk, rfl, hown, hbel⟩ := hrel
    by_cases hlt : k < n
    · obtain ⟨b, off, rfl, hcell⟩ := (HU.out wr hbel.out).2.2.2 (by omega)
      have hck := hcell k hlt
      have hkl : k < ns.length := by omega
      have hgd : ns.getD k 0 = ns[k] := by simp [List.getD, List.getElem?_eq_getElem hkl]
      rw [hgd] at hck
      obtain ⟨z, hz⟩ : ∃ z, ns[k] = z := ⟨_, rfl⟩
      have hzr := HR.out ns[k] (List.getElem_mem hkl)
      rw [hz] at hck hzr
      have HT := hide (show (ns.take (k + 1)).map sm = (ns.take k).map sm ++ [sm z] from by rw [List.take_add_one, List.getElem?_eq_getElem hkl, hz, List.map_append]; rfl)
      have HLT := hide (show ((ns.take k).map sm).length ≤ 100000 from by rw [List.length_map, List.length_take]; omega)
      have A1 := (Below.refl _ wr).alloc (Nat.le_refl _) (Obj.cells #[.int .i64 (sm z)] 3)
      have HO1 := hide (show OwnZ (wr.alloc (Obj.cells #[.int .i64 (sm z)] 3)) w.heap.size u3 ((ns.take k).map sm) from by
        refine World.ownsRow.kept hown.out (fgb_below A1 none) ?_
        cases hv : u3.ownBlock with
        | none => exact .inl rfl
        | some k => exact .inr (by simp))
      have HE1 := hide (ek_new wr #[.int .i64 (sm z)] 3)
      have HS1 := hide (Nat.le_trans hbel.out.size A1.size)
      have HB1 := hide (hbel.out.trans (A1.mono hbel.out.size))
      have CS := hide (small_any z wr hzr.1)
      clear hcell hgd hz A1 hzr
      go_wp2_with fail
      refine CS.out.mono ?_
      rintro e w1 ⟨rfl, hw1⟩
      subst hw1
      clear CS
      go_wp2_with (first
        | (at_builtin; refine wpList_append_z rfl _ _ rfl w.heap.size _ ((ns.take k).map sm) rfl HO1.out w1.heap.size (sm z) rfl HE1.out HLT.out HS1.out ?_; intro v2 w2 o2 g2 k2; have HO2 := hide o2; have HB2 := hide (HB1.out.grown g2 HS1.out k2); clear o2 g2 k2)
        | fail)
      go_roundw
      case rel => exact ⟨k + 1, by omega, by go_num, hide (by rw [HT.out]; exact HO2.out), HB2⟩
      case measure => simp [intOf]; omega
    · obtain rfl : k = n := by omega
      have hown2 := hown.out
      rw [List.take_of_length_le (by omega)] at hown2
      have HO := hide hown2
      clear hown hown2
      go_wp2
      go_ret
      exact ⟨_, rfl, HO.out, hbel.out⟩

end Go.Proofs.YtcahlmneancapaaGreatDoor.Clep

/- What edit.Read does when called: what its blocks hold between its steps, what it returns. No conditions. -/
namespace Go.Proofs.YtcahlmneancapaaGreatDoor.Clep
open Go.RowKit
set_option linter.unusedVariables false
set_option maxRecDepth 10000

theorem uls_place : ∀ (c : Nat) (zs : List Int) (P : Nat) (acc : List Int), P ≤ zs.length → (uls c zs P acc).2.2 = 0 → 0 ≤ (uls c zs P acc).2.1 ∧ (uls c zs P acc).2.1 ≤ (zs.length : Int)
  | 0, zs, P, acc, h, _ => by unfold uls; simp; omega
  | c + 1, zs, P, acc, h, he => by
    unfold uls at he ⊢
    split
    · rename_i ht
      rw [if_pos ht] at he
      have h1 := tk_size (zs.drop P) 0 0 (by omega)
      rw [List.length_drop] at h1
      exact uls_place c zs _ _ (by omega) he
    · rename_i ht
      rw [if_neg ht] at he
      simp
theorem ul_place (zs : List Int) (most : Int) (h : (ul zs most).2.2 = 0) : 0 ≤ (ul zs most).2.1 ∧ (ul zs most).2.1 ≤ (zs.length : Int) := by
  unfold ul at h ⊢
  split
  · rename_i ht
    rw [if_pos ht] at h
    split
    · rename_i hm
      simp
    · rename_i hm
      rw [if_neg hm] at h
      have h1 := tk_size zs 0 0 (by omega)
      exact uls_place _ zs _ _ (by omega) h
  · simp
theorem uls_nums : ∀ (c : Nat) (zs : List Int) (P : Nat) (acc : List Int), ByteL zs → (∀ z ∈ acc, 0 ≤ z ∧ z ≤ 18446744073709551615) → (∀ z ∈ (uls c zs P acc).1, 0 ≤ z ∧ z ≤ 18446744073709551615) ∧ ((uls c zs P acc).2.2 = 0 → (uls c zs P acc).1.length = acc.length + c)
  | 0, zs, P, acc, h, ha => by unfold uls; exact ⟨ha, fun _ => rfl⟩
  | c + 1, zs, P, acc, h, ha => by
    unfold uls
    split
    · have hf := tk_facts (zs.drop P) 0 0 (by omega) (fun z hz => h z (List.mem_of_mem_drop hz)) (by omega) (by simp)
      have := uls_nums c zs (P + (tk (zs.drop P) 0 0).2.1.toNat) (acc ++ [(tk (zs.drop P) 0 0).1]) h (fun z hz => by
        rcases List.mem_append.1 hz with e | e
        · exact ha z e
        · rw [List.mem_singleton.1 e]; exact ⟨hf.1, hf.2.1⟩)
      refine ⟨this.1, fun e => ?_⟩
      rw [this.2 e]
      simp
      omega
    · rename_i ht
      exact ⟨by simp, fun e => absurd e ht⟩
theorem ul_nums (zs : List Int) (most : Int) (h : ByteL zs) (hm : 0 ≤ most) : (∀ z ∈ (ul zs most).1, 0 ≤ z ∧ z ≤ 18446744073709551615) ∧ ((ul zs most).2.2 = 0 → ((ul zs most).1.length : Int) ≤ most) := by
  unfold ul
  split
  · split
    · exact ⟨by simp, fun e => by simp at e⟩
    · rename_i ht hmm
      have h1 := uls_nums (tk zs 0 0).1.toNat zs (tk zs 0 0).2.1.toNat [] h (by simp)
      refine ⟨h1.1, fun e => ?_⟩
      rw [h1.2 e]
      have hf := tk_facts zs 0 0 (by omega) h (by omega) (by simp)
      simp
      omega
  · rename_i ht
    exact ⟨by simp, fun e => absurd e ht⟩
def zE : Ed := ⟨[], [], 0, 0, 0, 0, 0⟩
/-- What Read returns. -/
def RdA (r : Option Ed) (w : World) (e : Ending) (w' : World) : Prop := (match r with
  | none => e = .returned (.tuple #[edV none 0 0 none 0 0 zE, .int .i64 3])
  | some E => ∃ da dc aa ac, e = .returned (.tuple #[edV da E.d.length dc aa E.a.length ac E, .int .i64 0]) ∧ Zs w' da E.d.length dc E.d ∧ Fs w' aa E.a.length ac E.a) ∧ Below w.heap.size w w'
theorem read_results {w : World} {R : Nat} {d v : Value} {A B C D E e : Int} (h : Ek w R #[d, v, .int .i64 A, .int .u64 B, .int .u64 C, .int .u64 D, .int .u64 E] 34) (ts : Array Value) (h2 : ts.getD 2 undef = .pointer (some ⟨R, 0, none⟩)) (h3 : ts.getD 3 undef = .int .i64 e) :
    (results Tryz.f140 ts).run Tryz.prog w = .ok (.tuple #[.agg #[d, v, .int .i64 A, .int .u64 B, .int .u64 C, .int .u64 D, .int .u64 E], .int .i64 e]) w := by
  have c0 := h.cell (o := 0) rfl
  have c1 := h.cell (o := 1) rfl
  have c2 := h.cell (o := 2) rfl
  have c3 := h.cell (o := 3) rfl
  have c4 := h.cell (o := 4) rfl
  have c5 := h.cell (o := 5) rfl
  have c6 := h.cell (o := 6) rfl
  rw [Array.getD_eq_getD_getElem?] at h2 h3
  simp [results, Tryz.results140, go_sem, c0, c1, c2, c3, c4, c5, c6, h2, h3]
/-- A store of seven cells. -/
def set7 (W : World) (R : Nat) (u0 u1 u2 u3 u4 u5 u6 : Value) : World := ((((((W.setCell ⟨R, 0, none⟩ u0).setCell ⟨R, 1, none⟩ u1).setCell ⟨R, 2, none⟩ u2).setCell ⟨R, 3, none⟩ u3).setCell ⟨R, 4, none⟩ u4).setCell ⟨R, 5, none⟩ u5).setCell ⟨R, 6, none⟩ u6
theorem eset7 {W : World} {R : Nat} {a0 a1 a2 a3 a4 a5 a6 : Value} {T : TypeId} (hz : Ek W R #[a0, a1, a2, a3, a4, a5, a6] T) (u0 u1 u2 u3 u4 u5 u6 : Value) : Ek (set7 W R u0 u1 u2 u3 u4 u5 u6) R #[u0, u1, u2, u3, u4, u5, u6] T := by
  have h0 : Ek _ R #[u0, a1, a2, a3, a4, a5, a6] T := hz.set 0 u0
  have h1 : Ek _ R #[u0, u1, a2, a3, a4, a5, a6] T := h0.set 1 u1
  have h2 : Ek _ R #[u0, u1, u2, a3, a4, a5, a6] T := h1.set 2 u2
  have h3 : Ek _ R #[u0, u1, u2, u3, a4, a5, a6] T := h2.set 3 u3
  have h4 : Ek _ R #[u0, u1, u2, u3, u4, a5, a6] T := h3.set 4 u4
  have h5 : Ek _ R #[u0, u1, u2, u3, u4, u5, a6] T := h4.set 5 u5
  exact h5.set 6 u6
theorem gset7 (W : World) (R : Nat) (u0 u1 u2 u3 u4 u5 u6 : Value) : W.grownBy (set7 W R u0 u1 u2 u3 u4 u5 u6) (some R) :=
  egrow (k := 6) (u := u6) (egrow (k := 5) (u := u5) (egrow (k := 4) (u := u4) (egrow (k := 3) (u := u3) (egrow (k := 2) (u := u2) (egrow (k := 1) (u := u1) (fgb_set W ⟨R, 0, none⟩ u0))))))
def zE7 : Array Value := #[.slice none 0 0, .slice none 0 0, .int .i64 0, .int .u64 0, .int .u64 0, .int .u64 0, .int .u64 0]
/-- Between the steps of Read. -/
structure RS (w : World) (R Q : Nat) (dd : Option Addr) (dn dc : Nat) (ds : List Int) (W : World) (s : List Int × Bool) (cs : Array Value) (fv : Value) (fl : List Fi) : Prop where
  rd : Rdr W w.heap.size R s
  q : Ek W Q cs 34
  own : OwnF W (Q + 1) fv fl
  zs : Zs W dd dn dc ds
  zb : ∀ a, dd = some a → R < a.block ∧ a.block < Q
  z : Ek W w.heap.size zE7 34
  bel : Below w.heap.size w W
  sz : Q + 1 ≤ W.heap.size
  rq : w.heap.size < R ∧ R < Q
theorem Zs.gb {w w' : World} {row : Option Nat} {ao : Option Addr} {n c : Nat} {l : List Int} (h : Zs w ao n c l) (hg : w.grownBy w' row) (hne : ∀ a, ao = some a → some a.block ≠ row) : Zs w' ao n c l := by
  refine ⟨h.1, h.2.1, h.2.2.1, fun h0 => ?_⟩
  obtain ⟨b, off, e, hc⟩ := h.2.2.2 h0
  refine ⟨b, off, e, fun i z hz => ?_⟩
  have := hc i z hz
  exact gb_cells hg (World.block_lt_of_cell? w _ this) (by have := hne _ e; exact this) _ _ this
section
variable {w : World} {R Q : Nat} {dd : Option Addr} {dn dc : Nat} {ds : List Int} {W W' : World} {s s' : List Int × Bool} {cs : Array Value} {fv fv' : Value} {fl fl' : List Fi}
theorem RS.drew (h : RS w R Q dd dn dc ds W s cs fv fl) : RS w R Q dd dn dc ds W.drew s cs fv fl := ⟨h.rd.keep (Below.refl _ W).drew, h.q.drew, h.own.drew, h.zs.below (Below.refl _ W).drew (Nat.le_refl _), h.zb, h.z.drew, h.bel.drew, h.sz, h.rq⟩
theorem RS.take (h : RS w R Q dd dn dc ds W s cs fv fl) (hg : W.grownBy W' (some R)) (hr : Rdr W' w.heap.size R s') : RS w R Q dd dn dc ds W' s' cs fv fl := by
  have hrq := h.rq
  refine ⟨hr, h.q.gb hg (fun e => ?_), ownF_grown h.own hg (fun k hk => ?_), h.zs.gb hg (fun a ha e => ?_), h.zb, h.z.gb hg (fun e => ?_), h.bel.grown hg h.bel.size (fun k hk => ?_), Nat.le_trans h.sz hg.size, hrq⟩
  · have : Q = R := Option.some.inj e; omega
  · have : R = k := Option.some.inj hk; omega
  · have h1 : a.block = R := Option.some.inj e; have := h.zb a ha; omega
  · have : w.heap.size = R := Option.some.inj e; omega
  · have : R = k := Option.some.inj hk; omega
theorem RS.setq (h : RS w R Q dd dn dc ds W s cs fv fl) (k : Nat) (u : Value) : RS w R Q dd dn dc ds (W.setCell ⟨Q, k, none⟩ u) s (cs.setIfInBounds k u) fv fl := by
  have hrq := h.rq
  have hg := fgb_set W ⟨Q, k, none⟩ u
  refine ⟨h.rd.gb hg (fun e => ?_) (fun k hk => ?_), h.q.set k u, ownF_grown h.own hg (fun k hk => ?_), h.zs.gb hg (fun a ha e => ?_), h.zb, h.z.gb hg (fun e => ?_), h.bel.grown hg h.bel.size (fun k hk => ?_), Nat.le_trans h.sz hg.size, hrq⟩
  · have : R = Q := Option.some.inj e; omega
  · have : Q = k := Option.some.inj hk; omega
  · have : Q = k := Option.some.inj hk; omega
  · have h1 : a.block = Q := Option.some.inj e; have := h.zb a ha; omega
  · have : w.heap.size = Q := Option.some.inj e; omega
  · have : Q = k := Option.some.inj hk; omega
theorem RS.keep (h : RS w R Q dd dn dc ds W s cs fv fl) (hb : Below W.heap.size W W') : RS w R Q dd dn dc ds W' s cs fv fl :=
  ⟨h.rd.keep hb, h.q.below hb h.q.lt, ownF_keep h.own hb, h.zs.below hb (Nat.le_refl _), h.zb, h.z.below hb h.z.lt, h.bel.trans (hb.mono h.bel.size), Nat.le_trans h.sz hb.size, h.rq⟩
theorem RS.row (h : RS w R Q dd dn dc ds W s cs fv fl) {row : Option Nat} (hg : W.grownBy W' row) (hk : ∀ k, row = some k → Q + 1 ≤ k) (ho : OwnF W' (Q + 1) fv' fl') : RS w R Q dd dn dc ds W' s cs fv' fl' := by
  have hrq := h.rq
  refine ⟨h.rd.gb hg (fun e => ?_) (fun k e => ?_), h.q.gb hg (fun e => ?_), ho, h.zs.gb hg (fun a ha e => ?_), h.zb, h.z.gb hg (fun e => ?_), h.bel.grown hg h.bel.size (fun k e => ?_), Nat.le_trans h.sz hg.size, hrq⟩
  · have := hk _ e.symm; omega
  · have := hk _ e; omega
  · have := hk _ e.symm; omega
  · have h1 := h.zb a ha; have := hk _ e.symm; omega
  · have := hk _ e.symm; omega
  · have := hk _ e; omega
end
theorem sm_range {z : Int} (h : 0 ≤ z) : -1 ≤ sm z ∧ sm z ≤ 1073741824 := by unfold sm; split <;> omega

end Go.Proofs.YtcahlmneancapaaGreatDoor.Clep

/- What the document's own Unlist (package clepsydraref1) does when called: any text up to 2^40, any bound. -/
namespace Go.Proofs.YtcahlmneancapaaGreatDoor.Clep
open Go.RowKit
set_option linter.unusedVariables false
set_option maxRecDepth 10000

theorem sz_drop {s : ByteArray} {zs : List Int} (h : Sz s zs) (P : Nat) (hP : P ≤ s.size) : Sz (s.extract P s.size) (zs.drop P) := by
  refine ⟨by rw [ByteArray.size_extract, List.length_drop, h.1]; omega, fun k hk => ?_⟩
  have hk2 : P + k < s.size := by rw [ByteArray.size_extract] at hk; omega
  have := h.2 (P + k) hk2
  rw [ByteArray.getElem_extract]
  rw [this]
  simp [List.getD]

end Go.Proofs.YtcahlmneancapaaGreatDoor.Clep
