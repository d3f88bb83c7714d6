/- What edit.without does when called (a walk over the translated program): for any files and any numbers, at most a thousand of each. -/
import Derived.Test.YtcahlmneancapaaGreatDoorFv03
import Derived.Test.YtcahlmneancapaaGreatDoorFv12
namespace Go.Proofs.YtcahlmneancapaaGreatDoor.Clep
open Go.RowKit Go.Maps
set_option linter.unusedVariables false
set_option maxRecDepth 10000

set_option maxHeartbeats 2000000 in
theorem without_any (fa da : Option Addr) (fn fc dn dc : Nat) (l : List Fi) (d : List Int) (w : World) (hf : Fs w fa fn fc l) (hd : Zs w da dn dc d) (hfn : fn ≤ 1000) (hdn : dn ≤ 1000) :
    Calls Tryz.prog 79 #[.slice fa fn fc, .slice da dn dc] w (WoR (wout l d) w) := by
  have hmm := makemap_hint
  have hll := hf.1
  have hld := hd.1
  have HF := hide (fun W (hW : Below w.heap.size w W) => hf.below hW (Nat.le_refl _))
  have HD := hide (fun W (hW : Below w.heap.size w W) => hd.below hW (Nat.le_refl _))
  have HW := hide hf.2.2.1
  have HRN := hide (show ∀ W, wout l d = none → Below w.heap.size w W → WoR (wout l d) w (.returned (.tuple #[.slice none 0 0, .bool false])) W from fun W h1 h2 => by rw [h1]; exact ⟨rfl, h2⟩)
  have HRS := hide (show ∀ W v, wout l d = some (stay l d) → OwnF W w.heap.size v (stay l d) → Below w.heap.size w W → WoR (wout l d) w (.returned (.tuple #[v, .bool true])) W from fun W v h1 h2 h3 => by rw [h1]; exact ⟨⟨v, rfl, h2⟩, h3⟩)
  have HTW := hide (show ∀ (k : Nat) (z : Int), d[k]? = some z → (d.take k).contains z = true → wout l d = none from fun k z h1 h2 => wout_twice h1 h2)
  have HGO := hide (show ∀ (k : Nat) (z : Int), d[k]? = some z → hasN l z = false → wout l d = none from fun k z h1 h2 => wout_gone h1 h2)
  have HYES := hide (show ndp d = true → d.all (hasN l) = true → wout l d = some (stay l d) from fun h1 h2 => by unfold wout; rw [h1, h2]; rfl)
  generalize WoR (wout l d) w = R at *
  generalize wout l d = r at *
  clear hf hd
  go_enter Tryz.func79, Tryz.ntmps79
  go_wp2_with fail
  go_loopw [23] (fun s wr => ∃ i : Nat, i ≤ dn ∧ s = .int .i64 i ∧ Hid (ndp (d.take i) = true) ∧ Hid (Mpc wr w.heap.size i (d.take i) (fun _ => 0)) ∧ Hid (Below w.heap.size w wr)) (fun s _ => dn - (intOf s).toNat)
  case atStart => exact ⟨0, by omega, rfl, hide rfl, hide (mpc_new w), hide ((Below.refl _ w).alloc (Nat.le_refl _) _)⟩
  case round =>
    obtain ⟨i, hi, rfl, hnd, hM, hB⟩ := hrel
    by_cases hlt : i < dn
    · obtain ⟨z, b, off, hz, rfl, hc, hz1, hz2⟩ := zs_at (HD.out wr hB.out) i hlt
      have hzr : -9223372036854775808 ≤ z ∧ z ≤ 9223372036854775807 := ⟨hz1, hz2⟩
      have HZ := hide hz
      have hil : i ≤ 1000000 := by omega
      have HKS := hide (fun s => snoc_contains (d.take i) z s)
      obtain ⟨o, ho⟩ : ∃ o, (d.take i).contains z = o := ⟨_, rfl⟩
      have HO := hide ho
      clear hz hz1 hz2 ho
      cases o with
      | true =>
        have HR := hide (HRN.out wr (HTW.out i z HZ.out HO.out) hB.out)
        go_wp2_with (first
          | (at_lookup; refine wpList_look_mpc rfl _ _ rfl w.heap.size i (d.take i) (fun _ => 0) rfl hM.out z rfl hzr true 0 HO.out rfl ?_)
          | fail)
        exact HR.out
      | false =>
        go_wp2_with (first
          | (at_lookup; refine wpList_look_mpc rfl _ _ rfl w.heap.size i (d.take i) (fun _ => 0) rfl hM.out z rfl hzr false 0 HO.out rfl ?_)
          | (at_mapUpdate; refine wpList_put_mpc rfl _ _ _ rfl w.heap.size i (d.take i) (fun _ => 0) rfl hM.out hil z rfl hzr 0 rfl (by omega) (d.take i ++ [z]) HKS.out ?_; intro w2 hM2 hg2; have HM2 := hide (hM2.more (Nat.le_refl _) (g' := fun _ => 0) (fun s => by split <;> rfl)); have HB2 := hide (hB.out.grown hg2 hB.out.size (fun j hj => by cases hj; exact Nat.le_refl _)); clear hM2 hg2)
          | fail)
        go_roundw
        case rel => exact ⟨i + 1, by omega, by go_num, hide (by rw [take_next HZ.out, ndp_snoc, hnd.out, HO.out]; rfl), hide (by rw [take_next HZ.out]; exact HM2.out), HB2⟩
        case measure => simp [intOf]; omega
    · obtain rfl : i = dn := by omega
      have htk : d.take i = d := List.take_of_length_le (by omega)
      rw [htk] at hnd hM
      clear htk
      go_wp2_with fail
      have HLT := hide hld
      go_loopw [11, 39] (fun v s wr => ∃ k : Nat, k ≤ fn ∧ s = .int .i64 k ∧ Hid (Mpc wr w.heap.size (i + k) d (gW l d k)) ∧ Hid (OwnF wr (w.heap.size + 1) v (stay (l.take k) d)) ∧ Hid (Below w.heap.size w wr) ∧ Hid (w.heap.size + 1 ≤ wr.heap.size)) (fun _ s _ => fn - (intOf s).toNat)
      case atStart => exact ⟨0, by omega, rfl, hide (hM.out.more (by omega) (fun s => by unfold gW cntN; simp)), hide (ownF_nil _ _), hB, hide (by obtain ⟨D, ho, _⟩ := hM.out; exact ho.lt)⟩
      case round =>
        obtain ⟨k, hk, rfl, hM2, hO2, hB2, hS2⟩ := hrel
        by_cases hlt2 : k < fn
        · obtain ⟨f, b, off, hf, rfl, c0, c1, hfw⟩ := fs_at (HF.out _ hB2.out) k hlt2
          have HFW := hide hfw
          have HSI := hide (@stay_in l d k f hf)
          have HSO := hide (@stay_out l d k f hf)
          have HCN := hide (cntN_next hf)
          have hfr := hfw.2
          obtain ⟨fL, fN⟩ := f
          simp only at c0 c1 hfr HSI HSO HCN
          obtain ⟨o, ho⟩ : ∃ o, d.contains fN = o := ⟨_, rfl⟩
          have HO := hide ho
          rw [ho] at HSI HSO
          obtain ⟨C, hC⟩ : ∃ C : Nat, cntN (l.take k) fN = C := ⟨_, rfl⟩
          have hCle : C ≤ 1000 := by rw [← hC]; exact Nat.le_trans (cntN_le _ _) (by rw [List.length_take]; omega)
          have HC := hide hC
          have HBA := hide (hB2.out.alloc hB2.out.size (Obj.cells #[.int .i64 fL, .int .i64 fN] 99))
          have A1 := (Below.refl _ wr).alloc (Nat.le_refl _) (Obj.cells #[.int .i64 fL, .int .i64 fN] 99)
          have HAS := hide A1.size
          have HM3 := hide (hM2.out.keep A1)
          have HO3 := hide (ownF_keep hO2.out A1)
          have hik : i + k ≤ 1000000 := by omega
          clear hf hfw ho hC A1
          cases o with
          | true =>
            have hgz : gW l d k fN = (C : Int) := by unfold gW; rw [if_pos HO.out, HC.out]
            have HGZ := hide hgz
            have hwr : IntKind.i64.wrap ((C : Int) + 1) = (C : Int) + 1 := by
              simp [IntKind.wrap, IntKind.bits, IntKind.signed]
              omega
            have HKS := hide (show ∀ s, d.contains s = (d.contains s || (fN == s)) from fun s => by
              by_cases e : fN = s
              · subst e; rw [HO.out]; rfl
              · rw [show (fN == s) = false from by simpa using e, Bool.or_false])
            clear hgz
            go_wp2_with (first
              | (at_lookup; refine wpList_look_mpc rfl _ _ rfl w.heap.size (i + k) d (gW l d k) rfl HM3.out fN rfl hfr true C HO.out HGZ.out ?_)
              | (at_mapUpdate; refine wpList_put_mpc rfl _ _ _ rfl w.heap.size (i + k) d (gW l d k) rfl HM3.out hik fN rfl hfr ((C : Int) + 1) rfl (by omega) d HKS.out ?_; intro w2 hM4 hg2; have HM4 := hide hM4; have HG2 := hide hg2; clear hM4 hg2)
              | fail)
            go_roundw
            case rel =>
              refine ⟨k + 1, by omega, by go_num, hide (HM4.out.more (by omega) (fun s => ?_)), hide ?_, hide (HBA.out.grown HG2.out HBA.out.size (fun j hj => by cases hj; exact Nat.le_refl _)), hide ?_⟩
              · show (if s = fN then ((C : Int) + 1) else gW l d k s) = gW l d (k + 1) s
                by_cases e : s = fN
                · subst e; unfold gW; rw [if_pos rfl, if_pos HO.out, HCN.out s, if_pos rfl, HC.out]; omega
                · rw [if_neg e]; unfold gW; rw [HCN.out s, if_neg (show ¬ fN = s from fun h => e h.symm), Nat.add_zero]
              · rw [HSI.out rfl]
                exact ownF_grown HO3.out HG2.out (fun j hj => by cases hj; omega)
              · exact Nat.le_trans (Nat.le_trans hS2.out HAS.out) HG2.out.size
            case measure => simp [intOf]; omega
          | false =>
            have HGZ := hide (show gW l d k fN = 0 by unfold gW; rw [if_neg (by rw [HO.out]; simp)])
            have A2 := (Below.refl _ (wr.alloc (Obj.cells #[.int .i64 fL, .int .i64 fN] 99))).alloc (Nat.le_refl _) (Obj.cells #[.int .i64 fL, .int .i64 fN] 99)
            have HBA2 := hide (HBA.out.alloc HBA.out.size (Obj.cells #[.int .i64 fL, .int .i64 fN] 99))
            have HM4 := hide (HM3.out.keep A2)
            have HO4 := hide (ownF_keep HO3.out A2)
            have HFS := hide (fs_block HFW.out (fhpS (wr.alloc (Obj.cells #[.int .i64 fL, .int .i64 fN] 99)) (Obj.cells #[.int .i64 fL, .int .i64 fN] 99) (wr.heap.size + 1) (by simp)))
            have HLN := hide (show (stay (l.take k) d).length + 1 ≤ 3518437208883 from by
              have := List.length_filter_le (fun f : Fi => !(d.contains f.N)) (l.take k)
              rw [List.length_take] at this
              unfold stay
              omega)
            have HS4 := hide (show w.heap.size + 1 ≤ ((wr.alloc (Obj.cells #[.int .i64 fL, .int .i64 fN] 99)).alloc (Obj.cells #[.int .i64 fL, .int .i64 fN] 99)).heap.size from Nat.le_trans (Nat.le_trans hS2.out HAS.out) A2.size)
            clear A2
            go_wp2_with (first
              | (at_lookup; refine wpList_look_mpc rfl _ _ rfl w.heap.size (i + k) d (gW l d k) rfl HM3.out fN rfl hfr false 0 HO.out HGZ.out ?_)
              | (at_builtin; refine wpList_append_files rfl _ _ rfl (w.heap.size + 1) _ (stay (l.take k) d) rfl HO4.out _ 1 1 [⟨fL, fN⟩] rfl HFS.out HLN.out HS4.out ?_; intro v5 w5 o5 g5 k5; have HO5 := hide o5; have HG5 := hide g5; have HK5 := hide k5; clear o5 g5 k5)
              | fail)
            go_roundw
            case rel =>
              refine ⟨k + 1, by omega, by go_num, hide ((HM4.out.kept HG5.out (fun e => by have := HK5.out _ e.symm; omega)).more (by omega) (fun s => ?_)), hide (by rw [HSO.out rfl]; exact HO5.out), hide (HBA2.out.grown HG5.out HBA2.out.size (fun j hj => by have := HK5.out j hj; omega)), hide (Nat.le_trans HS4.out HG5.out.size)⟩
              unfold gW
              rw [HCN.out s]
              by_cases e : fN = s
              · subst e; rw [if_neg (by rw [HO.out]; simp), if_neg (by rw [HO.out]; simp)]
              · rw [if_neg e, Nat.add_zero]
            case measure => simp [intOf]; omega
        · obtain rfl : k = fn := by omega
          have htl : l.take k = l := List.take_of_length_le (by omega)
          have HMF : Hid (∀ z, d.contains z = true → gW l d k z = (cntN l z : Int)) := hide (fun z h => by unfold gW; rw [if_pos h, htl])
          rw [htl] at hO2
          clear htl
          go_wp2_with fail
          go_loop [63] (fun s => ∃ j : Nat, j ≤ i ∧ s = .int .i64 j ∧ Hid ((d.take j).all (hasN l) = true)) (fun s => i - (intOf s).toNat)
          case atStart => exact ⟨0, by omega, rfl, hide (by simp)⟩
          case round =>
            obtain ⟨j, hj, rfl, hall⟩ := hrel
            by_cases hlt3 : j < i
            · obtain ⟨z, b, off, hz, rfl, hc, hz1, hz2⟩ := zs_at (HD.out _ hB2.out) j hlt3
              have hzr : -9223372036854775808 ≤ z ∧ z ≤ 9223372036854775807 := ⟨hz1, hz2⟩
              have HZ := hide hz
              have HGZ := hide (HMF.out z (by rw [List.contains_iff_mem]; exact List.mem_of_getElem? hz))
              obtain ⟨C, hC⟩ : ∃ C : Nat, cntN l z = C := ⟨_, rfl⟩
              rw [hC] at HGZ
              by_cases hC0 : C = 0
              · subst hC0
                have HR := hide (HRN.out _ (HGO.out j z hz ((cntN_zero l z).1 hC)) hB2.out)
                clear hz hz1 hz2 hC
                go_wp2_with (first
                  | (at_lookup; refine wpList_at_mpc rfl _ _ rfl w.heap.size (i + k) d (gW l d k) rfl hM2.out z rfl hzr 0 HGZ.out ?_)
                  | fail)
                exact HR.out
              · have HN := hide (all_more hz (show hasN l z = true from by
                  cases h : hasN l z with
                  | true => rfl
                  | false => exact absurd ((cntN_zero l z).2 h) (by rw [hC]; exact hC0)) hall.out)
                have q : ((C : Int) == 0) = false := by simpa using hC0
                clear hz hz1 hz2 hC hC0
                go_wp2_with (first
                  | (at_lookup; refine wpList_at_mpc rfl _ _ rfl w.heap.size (i + k) d (gW l d k) rfl hM2.out z rfl hzr C HGZ.out ?_)
                  | fail)
                go_round
                case rel => exact ⟨j + 1, by omega, by go_num, HN⟩
                case measure => simp [intOf]; omega
            · obtain rfl : j = i := by omega
              have hall2 : d.all (hasN l) = true := by have := hall.out; rwa [List.take_of_length_le (by omega)] at this
              have HR := hide (fun v h => HRS.out _ v (HYES.out hnd.out hall2) h hB2.out)
              clear hall2
              go_wp2
              exact HR.out _ (ownF_base hO2.out (by omega))

end Go.Proofs.YtcahlmneancapaaGreatDoor.Clep

/- Of files no number of which is there twice, without answers what the document's own drops do. No conditions. -/
namespace Go.Proofs.YtcahlmneancapaaGreatDoor.Clep
open Go.RowKit
set_option linter.unusedVariables false
set_option maxRecDepth 10000

def but (l : List Fi) (z : Int) : List Fi := l.filter (fun f => !(f.N == z))
theorem but_none : ∀ (l : List Fi) (z : Int), l.all (fun g => !(g.N == z)) = true → but l z = l
  | [], z, h => rfl
  | f :: r, z, h => by
    rw [List.all_cons, Bool.and_eq_true] at h
    unfold but
    rw [List.filter_cons, if_pos h.1]
    exact congrArg (f :: ·) (but_none r z h.2)
theorem wo_but : ∀ (l : List Fi) (z : Int), once l = true → hasN l z = true → wo l (atN l z) = but l z
  | [], z, h, hh => by cases hh
  | f :: r, z, h, hh => by
    unfold once at h
    rw [Bool.and_eq_true] at h
    by_cases e : f.N = z
    · have e1 : (f.N == z) = true := by simpa using e
      have : atN (f :: r) z = 0 := by unfold atN; rw [List.findIdx_cons, e1]; rfl
      rw [this]
      unfold but
      rw [List.filter_cons, if_neg (by rw [e1]; simp)]
      show ([] ++ r) = _
      rw [List.nil_append]
      exact (but_none r z (by rw [← e]; exact h.1)).symm
    · have e1 : (f.N == z) = false := by simpa using e
      have : atN (f :: r) z = atN r z + 1 := by unfold atN; rw [List.findIdx_cons, e1]; rfl
      rw [this]
      have hh' : hasN r z = true := by
        unfold hasN at hh ⊢
        rw [List.any_cons, e1, Bool.false_or] at hh
        exact hh
      unfold but
      rw [List.filter_cons, if_pos (by rw [e1]; rfl)]
      show f :: wo r (atN r z) = _
      rw [wo_but r z h.2 hh']
      rfl
theorem atN_not (l : List Fi) (z : Int) : atN l z = l.length ↔ hasN l z = false := by
  unfold atN hasN
  rw [List.findIdx_eq_length, List.any_eq_false]
  simp
theorem once_but : ∀ (l : List Fi) (z : Int), once l = true → once (but l z) = true
  | [], z, h => rfl
  | f :: r, z, h => by
    unfold once at h
    rw [Bool.and_eq_true] at h
    have ih := once_but r z h.2
    unfold but
    rw [List.filter_cons]
    split
    · unfold once
      rw [Bool.and_eq_true]
      refine ⟨List.all_eq_true.2 fun g hg => List.all_eq_true.1 h.1 g ((List.mem_filter.1 hg).1), ih⟩
    · exact ih
theorem hasN_but (l : List Fi) (z y : Int) : hasN (but l z) y = (hasN l y && !(y == z)) := by
  unfold hasN but
  induction l with
  | nil => rfl
  | cons f r ih =>
    rw [List.filter_cons]
    by_cases e : f.N = z
    · rw [if_neg (by simp [e]), ih, List.any_cons]
      by_cases e2 : y = z
      · subst e2; simp
      · rw [show (f.N == y) = false from by simp [e]; exact fun h => e2 h.symm, Bool.false_or]
    · rw [if_pos (by simp [e]), List.any_cons, List.any_cons, ih]
      by_cases e2 : f.N = y
      · subst e2; simp [e]
      · rw [show (f.N == y) = false from by simpa using e2]; simp
theorem stay_but (l : List Fi) (z : Int) (r : List Int) : stay (but l z) r = stay l (z :: r) := by
  unfold stay but
  rw [List.filter_filter]
  refine List.filter_congr fun f hf => ?_
  rw [List.contains_cons]
  cases h1 : r.contains f.N <;> cases h2 : (f.N == z) <;> rfl
theorem wout_dropN : ∀ (d : List Int) (l : List Fi), once l = true → wout l d = dropN l d
  | [], l, h => by
    unfold wout dropN stay
    simp [ndp]
  | z :: r, l, h => by
    unfold dropN
    cases hh : hasN l z with
    | false =>
      rw [if_pos ((atN_not l z).2 hh)]
      unfold wout
      rw [if_neg]
      rw [List.all_cons, hh]
      simp
    | true =>
      rw [if_neg (fun e => by rw [(atN_not l z).1 e] at hh; cases hh), wo_but l z h hh, ← wout_dropN r (but l z) (once_but l z h)]
      unfold wout
      rw [stay_but]
      have key : (ndp (z :: r) && (z :: r).all (hasN l)) = (ndp r && r.all (hasN (but l z))) := by
        rw [List.all_cons, hh, Bool.true_and]
        show ((!(r.contains z) && ndp r) && r.all (hasN l)) = _
        have hall : r.all (hasN (but l z)) = (r.all (hasN l) && !(r.contains z)) := by
          rw [Bool.eq_iff_iff, Bool.and_eq_true, List.all_eq_true, List.all_eq_true, Bool.not_eq_true', ← Bool.not_eq_true, List.contains_iff_mem]
          constructor
          · intro h1
            refine ⟨fun y hy => ?_, fun hz => ?_⟩
            · have := h1 y hy; rw [hasN_but, Bool.and_eq_true] at this; exact this.1
            · have := h1 z hz; rw [hasN_but] at this; simp at this
          · rintro ⟨h1, h2⟩ y hy
            rw [hasN_but, h1 y hy, Bool.true_and]
            have : ¬ y = z := fun e => h2 (e ▸ hy)
            simpa using this
        rw [hall]
        cases r.contains z <;> cases ndp r <;> cases r.all (hasN l) <;> rfl
      rw [key]

end Go.Proofs.YtcahlmneancapaaGreatDoor.Clep

/- What edit.Whole does when called (a walk over the translated program): for any View of few files. -/
namespace Go.Proofs.YtcahlmneancapaaGreatDoor.Clep
open Go.RowKit
set_option linter.unusedVariables false
set_option maxRecDepth 10000

def wholeE (V : Vw) : Ed := ⟨[], V.f, V.lg, V.fl, V.ct, V.at9, V.ls⟩
theorem whole_results {w : World} {R : Nat} {d v : Value} {A B C D E : Int} (h : Ek w R #[d, v, .int .i64 A, .int .u64 B, .int .u64 C, .int .u64 D, .int .u64 E] 34) (ts : Array Value) (h2 : ts.getD 2 undef = .pointer (some ⟨R, 0, none⟩)) :
    (results Tryz.f70 ts).run Tryz.prog w = .ok (.agg #[d, v, .int .i64 A, .int .u64 B, .int .u64 C, .int .u64 D, .int .u64 E]) w := by
  have c0 := h.cell (o := 0) rfl
  have c1 := h.cell (o := 1) rfl
  have c2 := h.cell (o := 2) rfl
  have c3 := h.cell (o := 3) rfl
  have c4 := h.cell (o := 4) rfl
  have c5 := h.cell (o := 5) rfl
  have c6 := h.cell (o := 6) rfl
  rw [Array.getD_eq_getD_getElem?] at h2
  simp [results, Tryz.results70, go_sem, c0, c1, c2, c3, c4, c5, c6, h2]
/-- Whole's answer. -/
def WhR (V : Vw) (w : World) (e : Ending) (w' : World) : Prop := ∃ a c, e = .returned (edV none 0 0 a V.f.length c (wholeE V)) ∧ c ≤ 9223372036854775807 ∧ Fs w' a V.f.length c V.f ∧ Below w.heap.size w w'
/-- What each slot of Whole's region holds. -/
def WTh (B : Nat) (fa : Option Addr) (fn fc : Nat) (l : List Fi) (lg fl ct at9 ls : Int) : (Nat → Bool) → Nat → Value → World → Prop := fun _ i v W => match i with
  | 0 => v = .pointer (some ⟨B, 1, none⟩)
  | 1 => v = .slice fa fn fc
  | 2 => ∃ a c, v = .slice a l.length c ∧ c ≤ 9223372036854775807 ∧ Fs W a l.length c l ∧ (∀ x, a = some x → B + 2 ≤ x.block)
  | 3 => v = .pointer (some ⟨B, 0, none⟩)
  | 4 => v = .int .i64 lg
  | 5 => v = .pointer (some ⟨B, 2, none⟩)
  | 6 => v = .int .u64 fl
  | 7 => v = .pointer (some ⟨B, 3, none⟩)
  | 8 => v = .int .u64 ct
  | 9 => v = .pointer (some ⟨B, 4, none⟩)
  | 10 => v = .int .u64 at9
  | 11 => v = .pointer (some ⟨B, 5, none⟩)
  | 12 => v = .int .u64 ls
  | 13 => ∃ a c, v = .agg #[.slice none 0 0, .slice a l.length c, .int .i64 lg, .int .u64 fl, .int .u64 ct, .int .u64 at9, .int .u64 ls] ∧ c ≤ 9223372036854775807 ∧ Fs W a l.length c l ∧ (∀ x, a = some x → B + 2 ≤ x.block)
  | _ => True
/-- What the memory holds meanwhile. -/
def WG (w : World) (B : Nat) (fa : Option Addr) (fn fc : Nat) (l : List Fi) (lg fl ct at9 ls : Int) : (Nat → Bool) → World → Prop := fun L W => Ek W B #[.int .i64 lg, .slice fa fn fc, .int .u64 fl, .int .u64 ct, .int .u64 at9, .int .u64 ls] 31 ∧ Below B w W ∧ (L 14 = false → Ek W (B + 1) #[.slice none 0 0, .slice none 0 0, .int .i64 0, .int .u64 0, .int .u64 0, .int .u64 0, .int .u64 0] 34) ∧
  (L 14 = true → ∃ a c, Ek W (B + 1) #[.slice none 0 0, .slice a l.length c, .int .i64 lg, .int .u64 fl, .int .u64 ct, .int .u64 at9, .int .u64 ls] 34 ∧ c ≤ 9223372036854775807 ∧ Fs W a l.length c l) ∧ B + 2 ≤ W.heap.size
theorem wg_upd {w : World} {B : Nat} {fa : Option Addr} {fn fc : Nat} {l : List Fi} {lg fl ct at9 ls : Int} {L : Nat → Bool} {W : World} (i : Nat) (hi : 14 ≠ i) (h : WG w B fa fn fc l lg fl ct at9 ls L W) : WG w B fa fn fc l lg fl ct at9 ls (upd L i) W := by
  unfold WG at *
  rwa [show upd L i 14 = L 14 from by unfold upd; rw [if_neg hi]]
theorem wg_below {w : World} {B : Nat} {fa : Option Addr} {fn fc : Nat} {l : List Fi} {lg fl ct at9 ls : Int} {L : Nat → Bool} {W W' : World} (h : WG w B fa fn fc l lg fl ct at9 ls L W) (hb : Below W.heap.size W W') : WG w B fa fn fc l lg fl ct at9 ls L W' :=
  ⟨h.1.below hb h.1.lt, h.2.1.trans (hb.mono (by have := h.2.2.2.2; omega)), fun e => (h.2.2.1 e).below hb (h.2.2.1 e).lt, fun e => by
    obtain ⟨a, c, h1, h2, h3⟩ := h.2.2.2.1 e
    exact ⟨a, c, h1.below hb h1.lt, h2, h3.below hb (Nat.le_refl _)⟩, Nat.le_trans h.2.2.2.2 hb.size⟩
theorem wth_keep (B : Nat) (fa : Option Addr) (fn fc : Nat) (l : List Fi) (lg fl ct at9 ls : Int) (L L' : Nat → Bool) (W W' : World) (hk : ∀ (a : Option Addr) (c : Nat), Fs W a l.length c l → (∀ x, a = some x → B + 2 ≤ x.block) → Fs W' a l.length c l) : ∀ j u, WTh B fa fn fc l lg fl ct at9 ls L j u W → WTh B fa fn fc l lg fl ct at9 ls L' j u W' := by
  intro j u h
  match j, h with
  | 2, ⟨a, c, h1, h2, h3, h4⟩ => exact ⟨a, c, h1, h2, hk a c h3 h4, h4⟩
  | 13, ⟨a, c, h1, h2, h3, h4⟩ => exact ⟨a, c, h1, h2, hk a c h3 h4, h4⟩
  | 0, h => exact h
  | 1, h => exact h
  | 3, h => exact h
  | 4, h => exact h
  | 5, h => exact h
  | 6, h => exact h
  | 7, h => exact h
  | 8, h => exact h
  | 9, h => exact h
  | 10, h => exact h
  | 11, h => exact h
  | 12, h => exact h
  | k + 14, h => trivial
theorem egrow {W W1 : World} {R k : Nat} {u : Value} (h : W.grownBy W1 (some R)) : W.grownBy (W1.setCell ⟨R, k, none⟩ u) (some R) := h.trans (fgb_set W1 ⟨R, k, none⟩ u)
theorem bgrow {w W W1 : World} {R : Nat} (hb : Below w.heap.size w W) (h : W.grownBy W1 (some R)) (hR : w.heap.size ≤ R) : Below w.heap.size w W1 := hb.grown h hb.size (fun k hk => by cases hk; exact hR)
set_option maxHeartbeats 1000000 in
theorem whole_any (fa : Option Addr) (fn fc : Nat) (V : Vw) (w : World) (h : Fs w fa fn fc V.f) (hn : fn ≤ 100000) :
    Calls Tryz.prog 70 #[vwV fa fn fc V] w (WhR V w) := by
  have hl := h.1
  have H0 := hide (fun W (hW : Below w.heap.size w W) => h.below hW (Nat.le_refl _))
  have HW := hide h.2.2.1
  have HR := hide (show ∀ (a : Option Addr) (c : Nat) (W : World), c ≤ 9223372036854775807 → Fs W a V.f.length c V.f → Below w.heap.size w W → WhR V w (.returned (edV none 0 0 a V.f.length c (wholeE V))) W from fun a c W h1 h2 h3 => ⟨a, c, rfl, h1, h2, h3⟩)
  generalize WhR V w = R at *
  obtain ⟨lg, l, fl, ct, at9, ls⟩ := V
  unfold vwV
  unfold edV wholeE at HR
  simp only at hl H0 HR HW ⊢
  clear h
  have A0 := (Below.refl w.heap.size w).alloc (Nat.le_refl _) (Obj.cells #[.int .i64 lg, .slice fa fn fc, .int .u64 fl, .int .u64 ct, .int .u64 at9, .int .u64 ls] 31)
  have HB0 := hide A0
  have hst := hide (show Ek ((w.alloc (Obj.cells #[.int .i64 lg, .slice fa fn fc, .int .u64 fl, .int .u64 ct, .int .u64 at9, .int .u64 ls] 31)).alloc (Obj.cells #[.slice none 0 0, .slice none 0 0, .int .i64 0, .int .u64 0, .int .u64 0, .int .u64 0, .int .u64 0] 34)) w.heap.size #[.int .i64 lg, .slice fa fn fc, .int .u64 fl, .int .u64 ct, .int .u64 at9, .int .u64 ls] 31 ∧ Ek ((w.alloc (Obj.cells #[.int .i64 lg, .slice fa fn fc, .int .u64 fl, .int .u64 ct, .int .u64 at9, .int .u64 ls] 31)).alloc (Obj.cells #[.slice none 0 0, .slice none 0 0, .int .i64 0, .int .u64 0, .int .u64 0, .int .u64 0, .int .u64 0] 34)) (w.heap.size + 1) #[.slice none 0 0, .slice none 0 0, .int .i64 0, .int .u64 0, .int .u64 0, .int .u64 0, .int .u64 0] 34 ∧ Below w.heap.size w ((w.alloc (Obj.cells #[.int .i64 lg, .slice fa fn fc, .int .u64 fl, .int .u64 ct, .int .u64 at9, .int .u64 ls] 31)).alloc (Obj.cells #[.slice none 0 0, .slice none 0 0, .int .i64 0, .int .u64 0, .int .u64 0, .int .u64 0, .int .u64 0] 34)) ∧ w.heap.size + 2 ≤ ((w.alloc (Obj.cells #[.int .i64 lg, .slice fa fn fc, .int .u64 fl, .int .u64 ct, .int .u64 at9, .int .u64 ls] 31)).alloc (Obj.cells #[.slice none 0 0, .slice none 0 0, .int .i64 0, .int .u64 0, .int .u64 0, .int .u64 0, .int .u64 0] 34)).heap.size from
    ⟨ek_old (ek_new w _ _) _, by have := ek_new (w.alloc (Obj.cells #[.int .i64 lg, .slice fa fn fc, .int .u64 fl, .int .u64 ct, .int .u64 at9, .int .u64 ls] 31)) #[.slice none 0 0, .slice none 0 0, .int .i64 0, .int .u64 0, .int .u64 0, .int .u64 0, .int .u64 0] 34; rw [show (w.alloc (Obj.cells #[.int .i64 lg, .slice fa fn fc, .int .u64 fl, .int .u64 ct, .int .u64 at9, .int .u64 ls] 31)).heap.size = w.heap.size + 1 from by simp] at this; exact this, A0.alloc A0.size _, by simp⟩)
  have HC := hide (show ∀ W, Below w.heap.size w W → Calls Tryz.prog 69 #[.slice fa fn fc] W fun e w' => ∃ a c, e = .returned (.slice a l.length c) ∧ c ≤ 9223372036854775807 ∧ Fs w' a l.length c l ∧ (∀ x, a = some x → W.heap.size ≤ x.block) ∧ Below W.heap.size W w' from fun W hW => (fclone_any fa fn fc l W (H0.out W hW) hn).mono fun e w' ⟨v, he, ho, hb⟩ => by
    obtain ⟨a, c, rfl, hc, hf, hx⟩ := ownF_fs ho HW.out
    exact ⟨a, c, he, hc, hf, hx, hb⟩)
  have HL := hide hl
  clear A0 hl
  go_enter Tryz.func70, Tryz.ntmps70
  go_wp2_with fail
  generalize hwa : ((w.alloc (Obj.cells #[.int .i64 lg, .slice fa fn fc, .int .u64 fl, .int .u64 ct, .int .u64 at9, .int .u64 ls] 31)).alloc (Obj.cells #[.slice none 0 0, .slice none 0 0, .int .i64 0, .int .u64 0, .int .u64 0, .int .u64 0, .int .u64 0] 34)) = wa at *
  clear hwa HB0
  refine region_si (WTh w.heap.size fa fn fc l lg fl ct at9 ls) (WG w w.heap.size fa fn fc l lg fl ct at9 ls) (by kernel_rfl) (by kernel_rfl) (by kernel_rfl) ?start ?step ?fin
  case start => exact ⟨hst.out.1.drew, hst.out.2.2.1.drew, fun _ => hst.out.2.1.drew, fun h => (by cases h), hst.out.2.2.2⟩
  case step =>
    intro L a W i hI hi hLi hw
    have hi2 : i < 15 := hi
    rcases (show i = 0 ∨ i = 1 ∨ i = 2 ∨ i = 3 ∨ i = 4 ∨ i = 5 ∨ i = 6 ∨ i = 7 ∨ i = 8 ∨ i = 9 ∨ i = 10 ∨ i = 11 ∨ i = 12 ∨ i = 13 ∨ i = 14 by omega) with rfl | rfl | rfl | rfl | rfl | rfl | rfl | rfl | rfl | rfl | rfl | rfl | rfl | rfl | rfl
    · have e0 := hI.kept 1 _ (by decide +kernel) rfl
      refine hI.pure (by kernel_rfl) (by decide +kernel) (i := 0) (d := 3) rfl rfl rfl (v := .pointer (some ⟨w.heap.size, 1, none⟩)) (rfl) (fun _ _ _ _ h => h) (wg_upd 0 (by decide) hI.g) ?_
      intro K hKK
      go_simp
      exact hKK
    · obtain ⟨_, e0, rfl⟩ := hI.val 0 3 (by decide +kernel) (hw 0 (by kernel_rfl)) (by kernel_rfl)
      have hc : W.cell? ⟨w.heap.size, 1, none⟩ = some (.slice fa fn fc) := hI.g.1.cell rfl
      refine hI.pure (by kernel_rfl) (by decide +kernel) (i := 1) (d := 4) rfl rfl rfl (v := .slice fa fn fc) (rfl) (fun _ _ _ _ h => h) (wg_upd 1 (by decide) hI.g) ?_
      intro K hKK
      go_simp
      exact hKK
    · obtain ⟨_, e0, rfl⟩ := hI.val 1 4 (by decide +kernel) (hw 1 (by kernel_rfl)) (by kernel_rfl)
      refine hI.more (by kernel_rfl) (by decide +kernel) (i := 2) (d := 5) rfl rfl rfl ?_
      intro K hKK
      go_simp
      refine (HC.out W hI.g.2.1).mono ?_
      rintro e W' ⟨a', c', rfl, hc', hf', hx', hb'⟩
      exact hKK (.slice a' l.length c') W' ⟨a', c', rfl, hc', hf', fun x hx => by have := hx' x hx; have := hI.g.2.2.2.2; omega⟩ (fun j u _ _ h => wth_keep _ _ _ _ _ _ _ _ _ _ _ _ _ _ (fun a c h _ => h.below hb' (Nat.le_refl _)) j u h) (wg_upd 2 (by decide) (wg_below hI.g hb'))
    · have e0 := hI.kept 1 _ (by decide +kernel) rfl
      refine hI.pure (by kernel_rfl) (by decide +kernel) (i := 3) (d := 6) rfl rfl rfl (v := .pointer (some ⟨w.heap.size, 0, none⟩)) (rfl) (fun _ _ _ _ h => h) (wg_upd 3 (by decide) hI.g) ?_
      intro K hKK
      go_simp
      exact hKK
    · obtain ⟨_, e0, rfl⟩ := hI.val 3 6 (by decide +kernel) (hw 3 (by kernel_rfl)) (by kernel_rfl)
      have hc : W.cell? ⟨w.heap.size, 0, none⟩ = some (.int .i64 lg) := hI.g.1.cell rfl
      refine hI.pure (by kernel_rfl) (by decide +kernel) (i := 4) (d := 7) rfl rfl rfl (v := .int .i64 lg) (rfl) (fun _ _ _ _ h => h) (wg_upd 4 (by decide) hI.g) ?_
      intro K hKK
      go_simp
      exact hKK
    · have e0 := hI.kept 1 _ (by decide +kernel) rfl
      refine hI.pure (by kernel_rfl) (by decide +kernel) (i := 5) (d := 8) rfl rfl rfl (v := .pointer (some ⟨w.heap.size, 2, none⟩)) (rfl) (fun _ _ _ _ h => h) (wg_upd 5 (by decide) hI.g) ?_
      intro K hKK
      go_simp
      exact hKK
    · obtain ⟨_, e0, rfl⟩ := hI.val 5 8 (by decide +kernel) (hw 5 (by kernel_rfl)) (by kernel_rfl)
      have hc : W.cell? ⟨w.heap.size, 2, none⟩ = some (.int .u64 fl) := hI.g.1.cell rfl
      refine hI.pure (by kernel_rfl) (by decide +kernel) (i := 6) (d := 9) rfl rfl rfl (v := .int .u64 fl) (rfl) (fun _ _ _ _ h => h) (wg_upd 6 (by decide) hI.g) ?_
      intro K hKK
      go_simp
      exact hKK
    · have e0 := hI.kept 1 _ (by decide +kernel) rfl
      refine hI.pure (by kernel_rfl) (by decide +kernel) (i := 7) (d := 10) rfl rfl rfl (v := .pointer (some ⟨w.heap.size, 3, none⟩)) (rfl) (fun _ _ _ _ h => h) (wg_upd 7 (by decide) hI.g) ?_
      intro K hKK
      go_simp
      exact hKK
    · obtain ⟨_, e0, rfl⟩ := hI.val 7 10 (by decide +kernel) (hw 7 (by kernel_rfl)) (by kernel_rfl)
      have hc : W.cell? ⟨w.heap.size, 3, none⟩ = some (.int .u64 ct) := hI.g.1.cell rfl
      refine hI.pure (by kernel_rfl) (by decide +kernel) (i := 8) (d := 11) rfl rfl rfl (v := .int .u64 ct) (rfl) (fun _ _ _ _ h => h) (wg_upd 8 (by decide) hI.g) ?_
      intro K hKK
      go_simp
      exact hKK
    · have e0 := hI.kept 1 _ (by decide +kernel) rfl
      refine hI.pure (by kernel_rfl) (by decide +kernel) (i := 9) (d := 12) rfl rfl rfl (v := .pointer (some ⟨w.heap.size, 4, none⟩)) (rfl) (fun _ _ _ _ h => h) (wg_upd 9 (by decide) hI.g) ?_
      intro K hKK
      go_simp
      exact hKK
    · obtain ⟨_, e0, rfl⟩ := hI.val 9 12 (by decide +kernel) (hw 9 (by kernel_rfl)) (by kernel_rfl)
      have hc : W.cell? ⟨w.heap.size, 4, none⟩ = some (.int .u64 at9) := hI.g.1.cell rfl
      refine hI.pure (by kernel_rfl) (by decide +kernel) (i := 10) (d := 13) rfl rfl rfl (v := .int .u64 at9) (rfl) (fun _ _ _ _ h => h) (wg_upd 10 (by decide) hI.g) ?_
      intro K hKK
      go_simp
      exact hKK
    · have e0 := hI.kept 1 _ (by decide +kernel) rfl
      refine hI.pure (by kernel_rfl) (by decide +kernel) (i := 11) (d := 14) rfl rfl rfl (v := .pointer (some ⟨w.heap.size, 5, none⟩)) (rfl) (fun _ _ _ _ h => h) (wg_upd 11 (by decide) hI.g) ?_
      intro K hKK
      go_simp
      exact hKK
    · obtain ⟨_, e0, rfl⟩ := hI.val 11 14 (by decide +kernel) (hw 11 (by kernel_rfl)) (by kernel_rfl)
      have hc : W.cell? ⟨w.heap.size, 5, none⟩ = some (.int .u64 ls) := hI.g.1.cell rfl
      refine hI.pure (by kernel_rfl) (by decide +kernel) (i := 12) (d := 15) rfl rfl rfl (v := .int .u64 ls) (rfl) (fun _ _ _ _ h => h) (wg_upd 12 (by decide) hI.g) ?_
      intro K hKK
      go_simp
      exact hKK
    · obtain ⟨_, e0, a', c', rfl, hc', hf', hx'⟩ := hI.val 2 5 (by decide +kernel) (hw 2 (by kernel_rfl)) (by kernel_rfl)
      obtain ⟨_, e1, rfl⟩ := hI.val 4 7 (by decide +kernel) (hw 4 (by kernel_rfl)) (by kernel_rfl)
      obtain ⟨_, e2, rfl⟩ := hI.val 6 9 (by decide +kernel) (hw 6 (by kernel_rfl)) (by kernel_rfl)
      obtain ⟨_, e3, rfl⟩ := hI.val 8 11 (by decide +kernel) (hw 8 (by kernel_rfl)) (by kernel_rfl)
      obtain ⟨_, e4, rfl⟩ := hI.val 10 13 (by decide +kernel) (hw 10 (by kernel_rfl)) (by kernel_rfl)
      obtain ⟨_, e5, rfl⟩ := hI.val 12 15 (by decide +kernel) (hw 12 (by kernel_rfl)) (by kernel_rfl)
      refine hI.pure (by kernel_rfl) (by decide +kernel) (i := 13) (d := 16) rfl rfl rfl (v := .agg #[.slice none 0 0, .slice a' l.length c', .int .i64 lg, .int .u64 fl, .int .u64 ct, .int .u64 at9, .int .u64 ls]) ⟨a', c', rfl, hc', hf', hx'⟩ (fun _ _ _ _ h => h) (wg_upd 13 (by decide) hI.g) ?_
      intro K hKK
      go_simp
      exact hKK
    · obtain ⟨_, e0, a', c', rfl, hc', hf', hx'⟩ := hI.val 13 16 (by decide +kernel) (hw 13 (by kernel_rfl)) (by kernel_rfl)
      have e1 := hI.kept 2 _ (by decide +kernel) rfl
      refine hI.store (by decide +kernel) (i := 14) rfl rfl rfl ?_
      intro K hKK
      have hz := hI.g.2.2.1 hLi
      have z0 : W.cell? ⟨w.heap.size + 1, 0, none⟩ = some (.slice none 0 0) := hz.cell rfl
      have y0 := hz.free 0
      have z1 : W.cell? ⟨w.heap.size + 1, 1, none⟩ = some (.slice none 0 0) := hz.cell rfl
      have y1 := hz.free 1
      have z2 : W.cell? ⟨w.heap.size + 1, 2, none⟩ = some (.int .i64 0) := hz.cell rfl
      have y2 := hz.free 2
      have z3 : W.cell? ⟨w.heap.size + 1, 3, none⟩ = some (.int .u64 0) := hz.cell rfl
      have y3 := hz.free 3
      have z4 : W.cell? ⟨w.heap.size + 1, 4, none⟩ = some (.int .u64 0) := hz.cell rfl
      have y4 := hz.free 4
      have z5 : W.cell? ⟨w.heap.size + 1, 5, none⟩ = some (.int .u64 0) := hz.cell rfl
      have y5 := hz.free 5
      have z6 : W.cell? ⟨w.heap.size + 1, 6, none⟩ = some (.int .u64 0) := hz.cell rfl
      have y6 := hz.free 6
      have HZ := hide hz
      clear hz
      go_simp
      have hg := egrow (k := 6) (u := .int .u64 ls) (egrow (k := 5) (u := .int .u64 at9) (egrow (k := 4) (u := .int .u64 ct) (egrow (k := 3) (u := .int .u64 fl) (egrow (k := 2) (u := .int .i64 lg) (egrow (k := 1) (u := .slice a' l.length c') (fgb_set W ⟨w.heap.size + 1, 0, none⟩ (.slice none 0 0)))))))
      have hzz := ((((((HZ.out.set 0 (.slice none 0 0)).set 1 (.slice a' l.length c')).set 2 (.int .i64 lg)).set 3 (.int .u64 fl)).set 4 (.int .u64 ct)).set 5 (.int .u64 at9)).set 6 (.int .u64 ls)
      have hfk : ∀ (a : Option Addr) (c : Nat), Fs W a l.length c l → (∀ x, a = some x → w.heap.size + 2 ≤ x.block) → Fs _ a l.length c l := fun a c h hx => h.gb hg (fun x hxx e => by have h1 := hx x hxx; have h2 : x.block = w.heap.size + 1 := Option.some.inj e; omega)
      refine hKK _ (fun j _ u _ _ _ _ h => wth_keep _ _ _ _ _ _ _ _ _ _ _ _ _ _ hfk j u h) ⟨hI.g.1.gb hg (by simp), bgrow (R := w.heap.size + 1) hI.g.2.1 hg (Nat.le_succ _), fun h => (by rw [upd_same] at h; cases h), fun _ => ⟨a', c', hzz, hc', hfk a' c' hf' hx'⟩, Nat.le_trans hI.g.2.2.2.2 hg.size⟩
  case fin =>
    intro L a W hI hall
    have s0 := hI.kept 0 _ (by decide +kernel) rfl
    have s1 := hI.kept 1 _ (by decide +kernel) rfl
    have s2 := hI.kept 2 _ (by decide +kernel) rfl
    obtain ⟨_, s3, rfl⟩ := hI.val 0 3 (by decide +kernel) (hall 0 (by decide +kernel)) (by kernel_rfl)
    obtain ⟨_, s4, rfl⟩ := hI.val 1 4 (by decide +kernel) (hall 1 (by decide +kernel)) (by kernel_rfl)
    obtain ⟨_, s5, a1, c1, rfl, _, _, _⟩ := hI.val 2 5 (by decide +kernel) (hall 2 (by decide +kernel)) (by kernel_rfl)
    obtain ⟨_, s6, rfl⟩ := hI.val 3 6 (by decide +kernel) (hall 3 (by decide +kernel)) (by kernel_rfl)
    obtain ⟨_, s7, rfl⟩ := hI.val 4 7 (by decide +kernel) (hall 4 (by decide +kernel)) (by kernel_rfl)
    obtain ⟨_, s8, rfl⟩ := hI.val 5 8 (by decide +kernel) (hall 5 (by decide +kernel)) (by kernel_rfl)
    obtain ⟨_, s9, rfl⟩ := hI.val 6 9 (by decide +kernel) (hall 6 (by decide +kernel)) (by kernel_rfl)
    obtain ⟨_, s10, rfl⟩ := hI.val 7 10 (by decide +kernel) (hall 7 (by decide +kernel)) (by kernel_rfl)
    obtain ⟨_, s11, rfl⟩ := hI.val 8 11 (by decide +kernel) (hall 8 (by decide +kernel)) (by kernel_rfl)
    obtain ⟨_, s12, rfl⟩ := hI.val 9 12 (by decide +kernel) (hall 9 (by decide +kernel)) (by kernel_rfl)
    obtain ⟨_, s13, rfl⟩ := hI.val 10 13 (by decide +kernel) (hall 10 (by decide +kernel)) (by kernel_rfl)
    obtain ⟨_, s14, rfl⟩ := hI.val 11 14 (by decide +kernel) (hall 11 (by decide +kernel)) (by kernel_rfl)
    obtain ⟨_, s15, rfl⟩ := hI.val 12 15 (by decide +kernel) (hall 12 (by decide +kernel)) (by kernel_rfl)
    obtain ⟨_, s16, a2, c2, rfl, _, _, _⟩ := hI.val 13 16 (by decide +kernel) (hall 13 (by decide +kernel)) (by kernel_rfl)
    have hfr := act_lit (l := [.agg #[.int .i64 lg, .slice fa fn fc, .int .u64 fl, .int .u64 ct, .int .u64 at9, .int .u64 ls], .pointer (some ⟨w.heap.size, 0, none⟩), .pointer (some ⟨w.heap.size + 1, 0, none⟩), .pointer (some ⟨w.heap.size, 1, none⟩), .slice fa fn fc, .slice a1 l.length c1, .pointer (some ⟨w.heap.size, 0, none⟩), .int .i64 lg, .pointer (some ⟨w.heap.size, 2, none⟩), .int .u64 fl, .pointer (some ⟨w.heap.size, 3, none⟩), .int .u64 ct, .pointer (some ⟨w.heap.size, 4, none⟩), .int .u64 at9, .pointer (some ⟨w.heap.size, 5, none⟩), .int .u64 ls, .agg #[.slice none 0 0, .slice a2 l.length c2, .int .i64 lg, .int .u64 fl, .int .u64 ct, .int .u64 at9, .int .u64 ls]]) hI.df hI.sz (fun d hd => match d, hd with | 0, _ => s0 | 1, _ => s1 | 2, _ => s2 | 3, _ => s3 | 4, _ => s4 | 5, _ => s5 | 6, _ => s6 | 7, _ => s7 | 8, _ => s8 | 9, _ => s9 | 10, _ => s10 | 11, _ => s11 | 12, _ => s12 | 13, _ => s13 | 14, _ => s14 | 15, _ => s15 | 16, _ => s16 | k + 17, hd => absurd hd (Nat.not_lt.2 (Nat.le_add_left 17 k)))
    have hG := hide hI.g
    have hA := hide hall
    rw [hfr]
    clear hfr hI hall s0 s1 s2 s3 s4 s5 s6 s7 s8 s9 s10 s11 s12 s13 s14 s15 s16
    obtain ⟨_, hbel, _, hfin, _⟩ := hG.out
    obtain ⟨a3, c3, hek, hc3, hf3⟩ := hfin (hA.out 14 (by decide +kernel))
    have HEK := hide hek
    have HRR := hide (HR.out a3 c3 W hc3 hf3 hbel)
    clear hek hf3 hfin hbel hc3
    go_wp2
    refine bodyPost_ret (whole_results HEK.out _ rfl) rfl ?_
    exact HRR.out

end Go.Proofs.YtcahlmneancapaaGreatDoor.Clep

/- What edit.Apply does when called (a walk over the translated program): for any View no number of which is there twice, and any Edit; few files. -/
namespace Go.Proofs.YtcahlmneancapaaGreatDoor.Clep
open Go.RowKit
set_option linter.unusedVariables false
set_option maxRecDepth 10000

theorem ownF_fsN2 {w : World} {B N c : Nat} {a : Option Addr} {l : List Fi} (h : OwnF w B (.slice a N c) l) (hw : ∀ x ∈ l, x.wf) (hN : l.length = N) : ∀ x, a = some x → B ≤ x.block := by
  obtain ⟨a', c', e, hc, hf, hx⟩ := ownF_fs h hw
  injection e with e1 e2 e3
  subst e1
  exact hx
theorem ownF_fsN {w : World} {B N c : Nat} {a : Option Addr} {l : List Fi} (h : OwnF w B (.slice a N c) l) (hw : ∀ x ∈ l, x.wf) (hN : l.length = N) : c ≤ 9223372036854775807 ∧ Fs w a N c l := by
  obtain ⟨a', c', e, hc, hf, hx⟩ := ownF_fs h hw
  injection e with e1 e2 e3
  subst e1 e3
  rw [hN] at hf
  exact ⟨hc, hf⟩
theorem papply_results {w : World} {R : Nat} {A B C D E : Int} {v : Value} {b : Bool} (h : Ek w R #[.int .i64 A, v, .int .u64 B, .int .u64 C, .int .u64 D, .int .u64 E] 31) (ts : Array Value) (h2 : ts.getD 4 undef = .pointer (some ⟨R, 0, none⟩)) (h3 : ts.getD 5 undef = .bool b) :
    (results Tryz.f39 ts).run Tryz.prog w = .ok (.tuple #[.agg #[.int .i64 A, v, .int .u64 B, .int .u64 C, .int .u64 D, .int .u64 E], .bool b]) w := by
  have c0 := h.cell (o := 0) rfl
  have c1 := h.cell (o := 1) rfl
  have c2 := h.cell (o := 2) rfl
  have c3 := h.cell (o := 3) rfl
  have c4 := h.cell (o := 4) rfl
  have c5 := h.cell (o := 5) rfl
  rw [Array.getD_eq_getD_getElem?] at h2 h3
  simp [results, Tryz.results39, go_sem, c0, c1, c2, c3, c4, c5, h2, h3]

set_option maxHeartbeats 4000000 in
theorem apply_any (fa da aa : Option Addr) (fn fc dn dc an ac : Nat) (V : Vw) (E : Ed) (w : World) (hv : Fs w fa fn fc V.f) (hd : Zs w da dn dc E.d) (ha : Fs w aa an ac E.a) (hfn : fn ≤ 1000) (hdn : dn ≤ 1000) (han : an ≤ 1000) (hon : once V.f = true) :
    Calls Tryz.prog 39 #[vwV fa fn fc V, edV da dn dc aa an ac E] w fun e w' => ApR (appl V E) w e w' := by
  have HA := hide (fun W (hW : Below w.heap.size w W) => ha.below hW (Nat.le_refl _))
  have HLA := hide ha.1
  have HWA := hide ha.2.2.1
  have hwd := wout_dropN E.d V.f hon
  have HRN := hide (show wout V.f E.d = none → appl V E = none from fun h => by unfold appl; rw [← hwd, h])
  have HRS := hide (show ∀ m, wout V.f E.d = some m → appl V E = if vok (after V E m) = true then some (after V E m) else none from fun m h => by unfold appl; rw [← hwd, h])
  have HM := hide (show ∀ m, wout V.f E.d = some m → (∀ x ∈ m, x.wf) ∧ m.length ≤ fn from fun m h => by
    unfold wout at h
    split at h
    · injection h with h
      subst h
      exact ⟨fun x hx => hv.2.2.1 x (List.mem_filter.1 hx).1, by rw [← hv.1]; exact List.length_filter_le _ _⟩
    · cases h)
  have HC := hide (fun W (hW : Below w.heap.size w W) => without_any fa da fn fc dn dc V.f E.d W (hv.below hW (Nat.le_refl _)) (hd.below hW (Nat.le_refl _)) hfn hdn)
  generalize appl V E = r at *
  generalize wout V.f E.d = ro at *
  obtain ⟨lg, l, fl, ct, at9, ls⟩ := V
  obtain ⟨d, a, lg', fl', ct', at9', ls'⟩ := E
  unfold vwV edV
  simp only at HA HLA HWA HRN HRS HM HC ⊢
  clear hv hd ha hwd hon
  have hst := hide (show ∀ W, Below (w.heap.size + 3) (((w.alloc (.cells #[.int .i64 lg, .slice fa fn fc, .int .u64 fl, .int .u64 ct, .int .u64 at9, .int .u64 ls] 31)).alloc (.cells #[.slice da dn dc, .slice aa an ac, .int .i64 lg', .int .u64 fl', .int .u64 ct', .int .u64 at9', .int .u64 ls'] 34)).alloc (.cells #[.int .i64 0, .slice none 0 0, .int .u64 0, .int .u64 0, .int .u64 0, .int .u64 0] 31)) W → Ek W w.heap.size #[.int .i64 lg, .slice fa fn fc, .int .u64 fl, .int .u64 ct, .int .u64 at9, .int .u64 ls] 31 ∧ Ek W (w.heap.size + 1) #[.slice da dn dc, .slice aa an ac, .int .i64 lg', .int .u64 fl', .int .u64 ct', .int .u64 at9', .int .u64 ls'] 34 ∧ Ek W (w.heap.size + 2) #[.int .i64 0, .slice none 0 0, .int .u64 0, .int .u64 0, .int .u64 0, .int .u64 0] 31 ∧ Below w.heap.size w W from fun W hW => by
    have h1 := ek_old (ek_old (ek_new w #[.int .i64 lg, .slice fa fn fc, .int .u64 fl, .int .u64 ct, .int .u64 at9, .int .u64 ls] 31) (.cells #[.slice da dn dc, .slice aa an ac, .int .i64 lg', .int .u64 fl', .int .u64 ct', .int .u64 at9', .int .u64 ls'] 34)) (.cells #[.int .i64 0, .slice none 0 0, .int .u64 0, .int .u64 0, .int .u64 0, .int .u64 0] 31)
    have h2 := ek_old (ek_new (w.alloc (.cells #[.int .i64 lg, .slice fa fn fc, .int .u64 fl, .int .u64 ct, .int .u64 at9, .int .u64 ls] 31)) #[.slice da dn dc, .slice aa an ac, .int .i64 lg', .int .u64 fl', .int .u64 ct', .int .u64 at9', .int .u64 ls'] 34) (.cells #[.int .i64 0, .slice none 0 0, .int .u64 0, .int .u64 0, .int .u64 0, .int .u64 0] 31)
    have h3 := ek_new ((w.alloc (.cells #[.int .i64 lg, .slice fa fn fc, .int .u64 fl, .int .u64 ct, .int .u64 at9, .int .u64 ls] 31)).alloc (.cells #[.slice da dn dc, .slice aa an ac, .int .i64 lg', .int .u64 fl', .int .u64 ct', .int .u64 at9', .int .u64 ls'] 34)) #[.int .i64 0, .slice none 0 0, .int .u64 0, .int .u64 0, .int .u64 0, .int .u64 0] 31
    rw [show (w.alloc (.cells #[.int .i64 lg, .slice fa fn fc, .int .u64 fl, .int .u64 ct, .int .u64 at9, .int .u64 ls] 31)).heap.size = w.heap.size + 1 from by simp] at h2
    rw [show ((w.alloc (.cells #[.int .i64 lg, .slice fa fn fc, .int .u64 fl, .int .u64 ct, .int .u64 at9, .int .u64 ls] 31)).alloc (.cells #[.slice da dn dc, .slice aa an ac, .int .i64 lg', .int .u64 fl', .int .u64 ct', .int .u64 at9', .int .u64 ls'] 34)).heap.size = w.heap.size + 2 from by simp] at h3
    refine ⟨h1.below hW (by omega), h2.below hW (by omega), h3.below hW (by omega), ?_⟩
    have A0 := (Below.refl w.heap.size w).alloc (Nat.le_refl _) (.cells #[.int .i64 lg, .slice fa fn fc, .int .u64 fl, .int .u64 ct, .int .u64 at9, .int .u64 ls] 31)
    have A1 := A0.alloc A0.size (.cells #[.slice da dn dc, .slice aa an ac, .int .i64 lg', .int .u64 fl', .int .u64 ct', .int .u64 at9', .int .u64 ls'] 34)
    exact (A1.alloc A1.size (.cells #[.int .i64 0, .slice none 0 0, .int .u64 0, .int .u64 0, .int .u64 0, .int .u64 0] 31)).trans (hW.mono (by omega)))
  have HSA := hide (show (((w.alloc (.cells #[.int .i64 lg, .slice fa fn fc, .int .u64 fl, .int .u64 ct, .int .u64 at9, .int .u64 ls] 31)).alloc (.cells #[.slice da dn dc, .slice aa an ac, .int .i64 lg', .int .u64 fl', .int .u64 ct', .int .u64 at9', .int .u64 ls'] 34)).alloc (.cells #[.int .i64 0, .slice none 0 0, .int .u64 0, .int .u64 0, .int .u64 0, .int .u64 0] 31)).heap.size = w.heap.size + 3 by simp)
  go_enter Tryz.func39, Tryz.ntmps39
  go_wp2_with fail
  generalize hwa : (((w.alloc (.cells #[.int .i64 lg, .slice fa fn fc, .int .u64 fl, .int .u64 ct, .int .u64 at9, .int .u64 ls] 31)).alloc (.cells #[.slice da dn dc, .slice aa an ac, .int .i64 lg', .int .u64 fl', .int .u64 ct', .int .u64 at9', .int .u64 ls'] 34)).alloc (.cells #[.int .i64 0, .slice none 0 0, .int .u64 0, .int .u64 0, .int .u64 0, .int .u64 0] 31)) = wa at *
  clear hwa
  refine (HC.out wa (hst.out wa (Below.refl _ _)).2.2.2).mono ?_
  rintro e w1 ⟨hr1, hb1⟩
  have hb2 : Below (w.heap.size + 3) wa w1 := hb1.mono (by rw [HSA.out]; exact Nat.le_refl _)
  have hs1 := hst.out w1 hb2
  have HB1 := hide hs1.2.2.2
  have HS1 := hide hs1
  have HSZ : Hid (w.heap.size + 3 ≤ w1.heap.size) := hide (by rw [← HSA.out]; exact hb1.size)
  clear hb1 hb2 HC
  cases ro with
  | none =>
    obtain rfl := hr1
    obtain rfl : r = none := HRN.out rfl
    have hz := hs1.2.2.1
    have z0 := hz.cell (o := 0) rfl
    have y0 := hz.free 0
    have z1 := hz.cell (o := 1) rfl
    have y1 := hz.free 1
    have z2 := hz.cell (o := 2) rfl
    have y2 := hz.free 2
    have z3 := hz.cell (o := 3) rfl
    have y3 := hz.free 3
    have z4 := hz.cell (o := 4) rfl
    have y4 := hz.free 4
    have z5 := hz.cell (o := 5) rfl
    have y5 := hz.free 5
    clear hz hs1 HRN HRS HM
    go_wp2
    have HZS := zset HS1.out.2.2.1 HB1.out (by omega) (.int .i64 0) (.slice none 0 0) (.int .u64 0) (.int .u64 0) (.int .u64 0) (.int .u64 0)
    refine bodyPost_ret (papply_results (b := false) HZS.1 _ rfl rfl) rfl ?_
    exact ⟨rfl, HZS.2⟩
  | some m =>
    obtain ⟨v6, rfl, ho1⟩ := hr1
    have hmm := HM.out m rfl
    have HRX := hide (HRS.out m rfl)
    have HWM := hide hmm.1
    have hml := hmm.2
    obtain ⟨a6, c6, rfl, hc6, hf6, hb6⟩ := ownF_fs ho1 hmm.1
    have HO1 := hide (ownF_base ho1 (C := w.heap.size + 3) (by rw [HSA.out]; exact Nat.le_refl _))
    have HROW := hide (show ∀ k, Value.ownBlock (.slice a6 m.length c6) = some k → k < w1.heap.size from fun k hk => (World.ownsRow.lt HO1.out k hk).2)
    have HRO3 := hide (show ∀ k, Value.ownBlock (.slice a6 m.length c6) = some k → w.heap.size + 3 ≤ k from fun k hk => (World.ownsRow.lt HO1.out k hk).1)
    have HEV := hide (show ∀ W, w1.grownBy W (Value.ownBlock (.slice a6 m.length c6)) → Ek W w.heap.size #[.int .i64 lg, .slice fa fn fc, .int .u64 fl, .int .u64 ct, .int .u64 at9, .int .u64 ls] 31 ∧ Ek W (w.heap.size + 1) #[.slice da dn dc, .slice aa an ac, .int .i64 lg', .int .u64 fl', .int .u64 ct', .int .u64 at9', .int .u64 ls'] 34 ∧ Ek W (w.heap.size + 2) #[.int .i64 0, .slice none 0 0, .int .u64 0, .int .u64 0, .int .u64 0, .int .u64 0] 31 ∧ Below w.heap.size w W from fun W hg =>
      ⟨HS1.out.1.gb hg (fun e => by have := HRO3.out _ e.symm; omega), HS1.out.2.1.gb hg (fun e => by have := HRO3.out _ e.symm; omega), HS1.out.2.2.1.gb hg (fun e => by have := HRO3.out _ e.symm; omega), HB1.out.grown hg HB1.out.size (fun k hk => by have := HRO3.out k hk; omega)⟩)
    have HWMA := hide (show ∀ x ∈ m ++ a, x.wf from fun x hx => by
      rcases List.mem_append.1 hx with h | h
      · exact HWM.out x h
      · exact HWA.out x h)
    have HLEN := hide (show m.length + an ≤ 3518437208883 by omega)
    have HLMA := hide (show (m ++ a).length ≤ 2000 by rw [List.length_append, HLA.out]; omega)
    obtain ⟨N, hN⟩ : ∃ N, (m ++ a).length = N := ⟨_, rfl⟩
    have HN := hide hN
    rw [hN] at HLMA
    clear hN
    clear hmm ho1 hf6 hb6 HM HRN HRS hs1
    go_wp2_with fail
    refine region_si (ATh w.heap.size w1.heap.size aa an ac a6 c6 N m a lg fl ct at9 ls lg' fl' ct' at9' ls') (AG w1 w.heap.size a6 c6 m) (by kernel_rfl) (by kernel_rfl) (by kernel_rfl) ?start ?step ?fin
    case start => exact ⟨fgb_below ((Below.refl _ w1).drew) _, fun _ => HO1.out.drew, fun e => (by cases e), fun e => (by cases e)⟩
    case step =>
      intro L A W i hI hi hLi hw
      have hi2 : i < 37 := hi
      rcases (show i = 0 ∨ i = 1 ∨ i = 2 ∨ i = 3 ∨ i = 4 ∨ i = 5 ∨ i = 6 ∨ i = 7 ∨ i = 8 ∨ i = 9 ∨ i = 10 ∨ i = 11 ∨ i = 12 ∨ i = 13 ∨ i = 14 ∨ i = 15 ∨ i = 16 ∨ i = 17 ∨ i = 18 ∨ i = 19 ∨ i = 20 ∨ i = 21 ∨ i = 22 ∨ i = 23 ∨ i = 24 ∨ i = 25 ∨ i = 26 ∨ i = 27 ∨ i = 28 ∨ i = 29 ∨ i = 30 ∨ i = 31 ∨ i = 32 ∨ i = 33 ∨ i = 34 ∨ i = 35 ∨ i = 36 by omega) with rfl | rfl | rfl | rfl | rfl | rfl | rfl | rfl | rfl | rfl | rfl | rfl | rfl | rfl | rfl | rfl | rfl | rfl | rfl | rfl | rfl | rfl | rfl | rfl | rfl | rfl | rfl | rfl | rfl | rfl | rfl | rfl | rfl | rfl | rfl | rfl | rfl
      · have h36 := ag36 hI.g (i := 0) (by decide) hLi
        have e0 := hI.kept 3 _ (by decide +kernel) rfl
        refine hI.pure (by kernel_rfl) (by decide +kernel) (i := 0) (d := 20) rfl rfl rfl (v := .pointer (some ⟨w.heap.size + 1, 2, none⟩)) (rfl) (fun j u _ _ h => ath_keep (upd36 (by decide)) (Below.refl _ _) j u h) (ag_upd 0 (by decide) (by decide) (by intro h; cases h) h36 hI.g) ?_
        intro K hKK
        go_simp
        exact hKK
      · have h36 := ag36 hI.g (i := 1) (by decide) hLi
        obtain ⟨_, e0, rfl⟩ := hI.val 0 20 (by decide +kernel) (hw 0 (by kernel_rfl)) (by kernel_rfl)
        have hc : W.cell? ⟨w.heap.size + 1, 2, none⟩ = some (.int .i64 lg') := (HEV.out W hI.g.1).2.1.cell rfl
        refine hI.pure (by kernel_rfl) (by decide +kernel) (i := 1) (d := 21) rfl rfl rfl (v := .int .i64 lg') (rfl) (fun j u _ _ h => ath_keep (upd36 (by decide)) (Below.refl _ _) j u h) (ag_upd 1 (by decide) (by decide) (by intro h; cases h) h36 hI.g) ?_
        intro K hKK
        go_simp
        exact hKK
      · have h36 := ag36 hI.g (i := 2) (by decide) hLi
        have e0 := hI.kept 2 _ (by decide +kernel) rfl
        refine hI.pure (by kernel_rfl) (by decide +kernel) (i := 2) (d := 22) rfl rfl rfl (v := .pointer (some ⟨w.heap.size, 0, none⟩)) (rfl) (fun j u _ _ h => ath_keep (upd36 (by decide)) (Below.refl _ _) j u h) (ag_upd 2 (by decide) (by decide) (by intro h; cases h) h36 hI.g) ?_
        intro K hKK
        go_simp
        exact hKK
      · have h36 := ag36 hI.g (i := 3) (by decide) hLi
        obtain ⟨_, e0, rfl⟩ := hI.val 2 22 (by decide +kernel) (hw 2 (by kernel_rfl)) (by kernel_rfl)
        have hc : W.cell? ⟨w.heap.size, 0, none⟩ = some (.int .i64 lg) := (HEV.out W hI.g.1).1.cell rfl
        refine hI.pure (by kernel_rfl) (by decide +kernel) (i := 3) (d := 23) rfl rfl rfl (v := .int .i64 lg) (rfl) (fun j u _ _ h => ath_keep (upd36 (by decide)) (Below.refl _ _) j u h) (ag_upd 3 (by decide) (by decide) (by intro h; cases h) h36 hI.g) ?_
        intro K hKK
        go_simp
        exact hKK
      · have h36 := ag36 hI.g (i := 4) (by decide) hLi
        obtain ⟨_, e0, rfl⟩ := hI.val 1 21 (by decide +kernel) (hw 1 (by kernel_rfl)) (by kernel_rfl)
        obtain ⟨_, e1, rfl⟩ := hI.val 3 23 (by decide +kernel) (hw 3 (by kernel_rfl)) (by kernel_rfl)
        refine hI.more (by kernel_rfl) (by decide +kernel) (i := 4) (d := 24) rfl rfl rfl ?_
        intro K hKK
        have A := (Below.refl _ W).alloc (Nat.le_refl _) (Obj.cells #[.int .i64 lg', .int .i64 lg] 3)
        go_simp
        exact hKK _ _ ⟨W.heap.size, rfl, fun _ => ⟨hI.g.1.size, by simp, iz2 (ek_new W _ _)⟩⟩ (fun j u _ _ h => ath_keep (upd36 (by decide)) A j u h) (ag_upd 4 (by decide) (by decide) (by intro h; cases h) h36 (ag_below hI.g A))
      · have h36 := ag36 hI.g (i := 5) (by decide) hLi
        obtain ⟨_, e0, q, rfl, hq⟩ := hI.val 4 24 (by decide +kernel) (hw 4 (by kernel_rfl)) (by kernel_rfl)
        refine hI.more (by kernel_rfl) (by decide +kernel) (i := 5) (d := 25) rfl rfl rfl ?_
        intro K hKK
        go_simp
        refine (ori_any q 2 _ W (hq h36).2.2 rfl (by omega)).mono ?_
        rintro e W' ⟨rfl, hW⟩
        subst hW
        exact hKK _ _ (congrArg (Value.int .i64) (or0_two lg' lg)) (fun j u _ _ h => ath_keep (upd36 (by decide)) (Below.refl _ _) j u h) (ag_upd 5 (by decide) (by decide) (by intro h; cases h) h36 hI.g)
      · have h36 := ag36 hI.g (i := 6) (by decide) hLi
        have e0 := hI.kept 6 _ (by decide +kernel) rfl
        refine hI.pure (by kernel_rfl) (by decide +kernel) (i := 6) (d := 26) rfl rfl rfl (v := .slice a6 m.length c6) (rfl) (fun j u _ _ h => ath_keep (upd36 (by decide)) (Below.refl _ _) j u h) (ag_upd 6 (by decide) (by decide) (by intro h; cases h) h36 hI.g) ?_
        intro K hKK
        go_simp
        exact hKK
      · have h36 := ag36 hI.g (i := 7) (by decide) hLi
        have e0 := hI.kept 3 _ (by decide +kernel) rfl
        refine hI.pure (by kernel_rfl) (by decide +kernel) (i := 7) (d := 27) rfl rfl rfl (v := .pointer (some ⟨w.heap.size + 1, 1, none⟩)) (rfl) (fun j u _ _ h => ath_keep (upd36 (by decide)) (Below.refl _ _) j u h) (ag_upd 7 (by decide) (by decide) (by intro h; cases h) h36 hI.g) ?_
        intro K hKK
        go_simp
        exact hKK
      · have h36 := ag36 hI.g (i := 8) (by decide) hLi
        obtain ⟨_, e0, rfl⟩ := hI.val 7 27 (by decide +kernel) (hw 7 (by kernel_rfl)) (by kernel_rfl)
        have hc : W.cell? ⟨w.heap.size + 1, 1, none⟩ = some (.slice aa an ac) := (HEV.out W hI.g.1).2.1.cell rfl
        refine hI.pure (by kernel_rfl) (by decide +kernel) (i := 8) (d := 28) rfl rfl rfl (v := .slice aa an ac) (rfl) (fun j u _ _ h => ath_keep (upd36 (by decide)) (Below.refl _ _) j u h) (ag_upd 8 (by decide) (by decide) (by intro h; cases h) h36 hI.g) ?_
        intro K hKK
        go_simp
        exact hKK
      · have h36 := ag36 hI.g (i := 9) (by decide) hLi
        obtain ⟨_, e0, rfl⟩ := hI.val 6 26 (by decide +kernel) (hw 6 (by kernel_rfl)) (by kernel_rfl)
        obtain ⟨_, e1, rfl⟩ := hI.val 8 28 (by decide +kernel) (hw 8 (by kernel_rfl)) (by kernel_rfl)
        refine hI.more (by kernel_rfl) (by decide +kernel) (i := 9) (d := 29) rfl rfl rfl ?_
        intro K hKK
        refine oper_append_files rfl (.tmp 26) (.tmp 28) rfl (w.heap.size + 3) (.slice a6 m.length c6) m (by simp [Act.eval, e0]) (hI.g.2.1 hLi) aa an ac a (by simp [Act.eval, e1]) (HA.out W (HEV.out W hI.g.1).2.2.2) HLEN.out (Nat.le_trans HSZ.out hI.g.1.size) ?_
        intro v' W' ho' hg' hk'
        obtain ⟨a4, c4, hv4, _, _, _⟩ := ownF_fs ho' HWMA.out
        rw [HN.out] at hv4
        subst hv4
        exact hKK _ _ ⟨a4, c4, rfl, fun _ => ho'⟩ (fun j u hj hLj h => ath_row (upd36 (by decide)) h36 hg' HROW.out j u ⟨hj, fun e => by subst e; rw [hI.g.2.2.2 hLj] at hLi; cases hLi⟩ h) ⟨gb_comp hI.g.1 hg' (fun k hk => .inl hk), fun e => (by rw [upd_same] at e; cases e), fun e => (by rw [upd36 (by decide), h36] at e; cases e), fun _ => upd_same _ _⟩
      · have h36 := ag36 hI.g (i := 10) (by decide) hLi
        have e0 := hI.kept 3 _ (by decide +kernel) rfl
        refine hI.pure (by kernel_rfl) (by decide +kernel) (i := 10) (d := 30) rfl rfl rfl (v := .pointer (some ⟨w.heap.size + 1, 3, none⟩)) (rfl) (fun j u _ _ h => ath_keep (upd36 (by decide)) (Below.refl _ _) j u h) (ag_upd 10 (by decide) (by decide) (by intro h; cases h) h36 hI.g) ?_
        intro K hKK
        go_simp
        exact hKK
      · have h36 := ag36 hI.g (i := 11) (by decide) hLi
        obtain ⟨_, e0, rfl⟩ := hI.val 10 30 (by decide +kernel) (hw 10 (by kernel_rfl)) (by kernel_rfl)
        have hc : W.cell? ⟨w.heap.size + 1, 3, none⟩ = some (.int .u64 fl') := (HEV.out W hI.g.1).2.1.cell rfl
        refine hI.pure (by kernel_rfl) (by decide +kernel) (i := 11) (d := 31) rfl rfl rfl (v := .int .u64 fl') (rfl) (fun j u _ _ h => ath_keep (upd36 (by decide)) (Below.refl _ _) j u h) (ag_upd 11 (by decide) (by decide) (by intro h; cases h) h36 hI.g) ?_
        intro K hKK
        go_simp
        exact hKK
      · have h36 := ag36 hI.g (i := 12) (by decide) hLi
        have e0 := hI.kept 2 _ (by decide +kernel) rfl
        refine hI.pure (by kernel_rfl) (by decide +kernel) (i := 12) (d := 32) rfl rfl rfl (v := .pointer (some ⟨w.heap.size, 2, none⟩)) (rfl) (fun j u _ _ h => ath_keep (upd36 (by decide)) (Below.refl _ _) j u h) (ag_upd 12 (by decide) (by decide) (by intro h; cases h) h36 hI.g) ?_
        intro K hKK
        go_simp
        exact hKK
      · have h36 := ag36 hI.g (i := 13) (by decide) hLi
        obtain ⟨_, e0, rfl⟩ := hI.val 12 32 (by decide +kernel) (hw 12 (by kernel_rfl)) (by kernel_rfl)
        have hc : W.cell? ⟨w.heap.size, 2, none⟩ = some (.int .u64 fl) := (HEV.out W hI.g.1).1.cell rfl
        refine hI.pure (by kernel_rfl) (by decide +kernel) (i := 13) (d := 33) rfl rfl rfl (v := .int .u64 fl) (rfl) (fun j u _ _ h => ath_keep (upd36 (by decide)) (Below.refl _ _) j u h) (ag_upd 13 (by decide) (by decide) (by intro h; cases h) h36 hI.g) ?_
        intro K hKK
        go_simp
        exact hKK
      · have h36 := ag36 hI.g (i := 14) (by decide) hLi
        obtain ⟨_, e0, rfl⟩ := hI.val 11 31 (by decide +kernel) (hw 11 (by kernel_rfl)) (by kernel_rfl)
        obtain ⟨_, e1, rfl⟩ := hI.val 13 33 (by decide +kernel) (hw 13 (by kernel_rfl)) (by kernel_rfl)
        refine hI.more (by kernel_rfl) (by decide +kernel) (i := 14) (d := 34) rfl rfl rfl ?_
        intro K hKK
        have A := (Below.refl _ W).alloc (Nat.le_refl _) (Obj.cells #[.int .u64 fl', .int .u64 fl] 29)
        go_simp
        exact hKK _ _ ⟨W.heap.size, rfl, fun _ => ⟨hI.g.1.size, by simp, uz2 (ek_new W _ _)⟩⟩ (fun j u _ _ h => ath_keep (upd36 (by decide)) A j u h) (ag_upd 14 (by decide) (by decide) (by intro h; cases h) h36 (ag_below hI.g A))
      · have h36 := ag36 hI.g (i := 15) (by decide) hLi
        obtain ⟨_, e0, q, rfl, hq⟩ := hI.val 14 34 (by decide +kernel) (hw 14 (by kernel_rfl)) (by kernel_rfl)
        refine hI.more (by kernel_rfl) (by decide +kernel) (i := 15) (d := 35) rfl rfl rfl ?_
        intro K hKK
        go_simp
        refine (oru_any q 2 _ W (hq h36).2.2 rfl (by omega)).mono ?_
        rintro e W' ⟨rfl, hW⟩
        subst hW
        exact hKK _ _ (congrArg (Value.int .u64) (or0_two fl' fl)) (fun j u _ _ h => ath_keep (upd36 (by decide)) (Below.refl _ _) j u h) (ag_upd 15 (by decide) (by decide) (by intro h; cases h) h36 hI.g)
      · have h36 := ag36 hI.g (i := 16) (by decide) hLi
        have e0 := hI.kept 3 _ (by decide +kernel) rfl
        refine hI.pure (by kernel_rfl) (by decide +kernel) (i := 16) (d := 36) rfl rfl rfl (v := .pointer (some ⟨w.heap.size + 1, 4, none⟩)) (rfl) (fun j u _ _ h => ath_keep (upd36 (by decide)) (Below.refl _ _) j u h) (ag_upd 16 (by decide) (by decide) (by intro h; cases h) h36 hI.g) ?_
        intro K hKK
        go_simp
        exact hKK
      · have h36 := ag36 hI.g (i := 17) (by decide) hLi
        obtain ⟨_, e0, rfl⟩ := hI.val 16 36 (by decide +kernel) (hw 16 (by kernel_rfl)) (by kernel_rfl)
        have hc : W.cell? ⟨w.heap.size + 1, 4, none⟩ = some (.int .u64 ct') := (HEV.out W hI.g.1).2.1.cell rfl
        refine hI.pure (by kernel_rfl) (by decide +kernel) (i := 17) (d := 37) rfl rfl rfl (v := .int .u64 ct') (rfl) (fun j u _ _ h => ath_keep (upd36 (by decide)) (Below.refl _ _) j u h) (ag_upd 17 (by decide) (by decide) (by intro h; cases h) h36 hI.g) ?_
        intro K hKK
        go_simp
        exact hKK
      · have h36 := ag36 hI.g (i := 18) (by decide) hLi
        have e0 := hI.kept 2 _ (by decide +kernel) rfl
        refine hI.pure (by kernel_rfl) (by decide +kernel) (i := 18) (d := 38) rfl rfl rfl (v := .pointer (some ⟨w.heap.size, 3, none⟩)) (rfl) (fun j u _ _ h => ath_keep (upd36 (by decide)) (Below.refl _ _) j u h) (ag_upd 18 (by decide) (by decide) (by intro h; cases h) h36 hI.g) ?_
        intro K hKK
        go_simp
        exact hKK
      · have h36 := ag36 hI.g (i := 19) (by decide) hLi
        obtain ⟨_, e0, rfl⟩ := hI.val 18 38 (by decide +kernel) (hw 18 (by kernel_rfl)) (by kernel_rfl)
        have hc : W.cell? ⟨w.heap.size, 3, none⟩ = some (.int .u64 ct) := (HEV.out W hI.g.1).1.cell rfl
        refine hI.pure (by kernel_rfl) (by decide +kernel) (i := 19) (d := 39) rfl rfl rfl (v := .int .u64 ct) (rfl) (fun j u _ _ h => ath_keep (upd36 (by decide)) (Below.refl _ _) j u h) (ag_upd 19 (by decide) (by decide) (by intro h; cases h) h36 hI.g) ?_
        intro K hKK
        go_simp
        exact hKK
      · have h36 := ag36 hI.g (i := 20) (by decide) hLi
        obtain ⟨_, e0, rfl⟩ := hI.val 17 37 (by decide +kernel) (hw 17 (by kernel_rfl)) (by kernel_rfl)
        obtain ⟨_, e1, rfl⟩ := hI.val 19 39 (by decide +kernel) (hw 19 (by kernel_rfl)) (by kernel_rfl)
        refine hI.more (by kernel_rfl) (by decide +kernel) (i := 20) (d := 40) rfl rfl rfl ?_
        intro K hKK
        have A := (Below.refl _ W).alloc (Nat.le_refl _) (Obj.cells #[.int .u64 ct', .int .u64 ct] 29)
        go_simp
        exact hKK _ _ ⟨W.heap.size, rfl, fun _ => ⟨hI.g.1.size, by simp, uz2 (ek_new W _ _)⟩⟩ (fun j u _ _ h => ath_keep (upd36 (by decide)) A j u h) (ag_upd 20 (by decide) (by decide) (by intro h; cases h) h36 (ag_below hI.g A))
      · have h36 := ag36 hI.g (i := 21) (by decide) hLi
        obtain ⟨_, e0, q, rfl, hq⟩ := hI.val 20 40 (by decide +kernel) (hw 20 (by kernel_rfl)) (by kernel_rfl)
        refine hI.more (by kernel_rfl) (by decide +kernel) (i := 21) (d := 41) rfl rfl rfl ?_
        intro K hKK
        go_simp
        refine (oru_any q 2 _ W (hq h36).2.2 rfl (by omega)).mono ?_
        rintro e W' ⟨rfl, hW⟩
        subst hW
        exact hKK _ _ (congrArg (Value.int .u64) (or0_two ct' ct)) (fun j u _ _ h => ath_keep (upd36 (by decide)) (Below.refl _ _) j u h) (ag_upd 21 (by decide) (by decide) (by intro h; cases h) h36 hI.g)
      · have h36 := ag36 hI.g (i := 22) (by decide) hLi
        have e0 := hI.kept 3 _ (by decide +kernel) rfl
        refine hI.pure (by kernel_rfl) (by decide +kernel) (i := 22) (d := 42) rfl rfl rfl (v := .pointer (some ⟨w.heap.size + 1, 5, none⟩)) (rfl) (fun j u _ _ h => ath_keep (upd36 (by decide)) (Below.refl _ _) j u h) (ag_upd 22 (by decide) (by decide) (by intro h; cases h) h36 hI.g) ?_
        intro K hKK
        go_simp
        exact hKK
      · have h36 := ag36 hI.g (i := 23) (by decide) hLi
        obtain ⟨_, e0, rfl⟩ := hI.val 22 42 (by decide +kernel) (hw 22 (by kernel_rfl)) (by kernel_rfl)
        have hc : W.cell? ⟨w.heap.size + 1, 5, none⟩ = some (.int .u64 at9') := (HEV.out W hI.g.1).2.1.cell rfl
        refine hI.pure (by kernel_rfl) (by decide +kernel) (i := 23) (d := 43) rfl rfl rfl (v := .int .u64 at9') (rfl) (fun j u _ _ h => ath_keep (upd36 (by decide)) (Below.refl _ _) j u h) (ag_upd 23 (by decide) (by decide) (by intro h; cases h) h36 hI.g) ?_
        intro K hKK
        go_simp
        exact hKK
      · have h36 := ag36 hI.g (i := 24) (by decide) hLi
        have e0 := hI.kept 2 _ (by decide +kernel) rfl
        refine hI.pure (by kernel_rfl) (by decide +kernel) (i := 24) (d := 44) rfl rfl rfl (v := .pointer (some ⟨w.heap.size, 4, none⟩)) (rfl) (fun j u _ _ h => ath_keep (upd36 (by decide)) (Below.refl _ _) j u h) (ag_upd 24 (by decide) (by decide) (by intro h; cases h) h36 hI.g) ?_
        intro K hKK
        go_simp
        exact hKK
      · have h36 := ag36 hI.g (i := 25) (by decide) hLi
        obtain ⟨_, e0, rfl⟩ := hI.val 24 44 (by decide +kernel) (hw 24 (by kernel_rfl)) (by kernel_rfl)
        have hc : W.cell? ⟨w.heap.size, 4, none⟩ = some (.int .u64 at9) := (HEV.out W hI.g.1).1.cell rfl
        refine hI.pure (by kernel_rfl) (by decide +kernel) (i := 25) (d := 45) rfl rfl rfl (v := .int .u64 at9) (rfl) (fun j u _ _ h => ath_keep (upd36 (by decide)) (Below.refl _ _) j u h) (ag_upd 25 (by decide) (by decide) (by intro h; cases h) h36 hI.g) ?_
        intro K hKK
        go_simp
        exact hKK
      · have h36 := ag36 hI.g (i := 26) (by decide) hLi
        obtain ⟨_, e0, rfl⟩ := hI.val 23 43 (by decide +kernel) (hw 23 (by kernel_rfl)) (by kernel_rfl)
        obtain ⟨_, e1, rfl⟩ := hI.val 25 45 (by decide +kernel) (hw 25 (by kernel_rfl)) (by kernel_rfl)
        refine hI.more (by kernel_rfl) (by decide +kernel) (i := 26) (d := 46) rfl rfl rfl ?_
        intro K hKK
        have A := (Below.refl _ W).alloc (Nat.le_refl _) (Obj.cells #[.int .u64 at9', .int .u64 at9] 29)
        go_simp
        exact hKK _ _ ⟨W.heap.size, rfl, fun _ => ⟨hI.g.1.size, by simp, uz2 (ek_new W _ _)⟩⟩ (fun j u _ _ h => ath_keep (upd36 (by decide)) A j u h) (ag_upd 26 (by decide) (by decide) (by intro h; cases h) h36 (ag_below hI.g A))
      · have h36 := ag36 hI.g (i := 27) (by decide) hLi
        obtain ⟨_, e0, q, rfl, hq⟩ := hI.val 26 46 (by decide +kernel) (hw 26 (by kernel_rfl)) (by kernel_rfl)
        refine hI.more (by kernel_rfl) (by decide +kernel) (i := 27) (d := 47) rfl rfl rfl ?_
        intro K hKK
        go_simp
        refine (oru_any q 2 _ W (hq h36).2.2 rfl (by omega)).mono ?_
        rintro e W' ⟨rfl, hW⟩
        subst hW
        exact hKK _ _ (congrArg (Value.int .u64) (or0_two at9' at9)) (fun j u _ _ h => ath_keep (upd36 (by decide)) (Below.refl _ _) j u h) (ag_upd 27 (by decide) (by decide) (by intro h; cases h) h36 hI.g)
      · have h36 := ag36 hI.g (i := 28) (by decide) hLi
        have e0 := hI.kept 3 _ (by decide +kernel) rfl
        refine hI.pure (by kernel_rfl) (by decide +kernel) (i := 28) (d := 48) rfl rfl rfl (v := .pointer (some ⟨w.heap.size + 1, 6, none⟩)) (rfl) (fun j u _ _ h => ath_keep (upd36 (by decide)) (Below.refl _ _) j u h) (ag_upd 28 (by decide) (by decide) (by intro h; cases h) h36 hI.g) ?_
        intro K hKK
        go_simp
        exact hKK
      · have h36 := ag36 hI.g (i := 29) (by decide) hLi
        obtain ⟨_, e0, rfl⟩ := hI.val 28 48 (by decide +kernel) (hw 28 (by kernel_rfl)) (by kernel_rfl)
        have hc : W.cell? ⟨w.heap.size + 1, 6, none⟩ = some (.int .u64 ls') := (HEV.out W hI.g.1).2.1.cell rfl
        refine hI.pure (by kernel_rfl) (by decide +kernel) (i := 29) (d := 49) rfl rfl rfl (v := .int .u64 ls') (rfl) (fun j u _ _ h => ath_keep (upd36 (by decide)) (Below.refl _ _) j u h) (ag_upd 29 (by decide) (by decide) (by intro h; cases h) h36 hI.g) ?_
        intro K hKK
        go_simp
        exact hKK
      · have h36 := ag36 hI.g (i := 30) (by decide) hLi
        have e0 := hI.kept 2 _ (by decide +kernel) rfl
        refine hI.pure (by kernel_rfl) (by decide +kernel) (i := 30) (d := 50) rfl rfl rfl (v := .pointer (some ⟨w.heap.size, 5, none⟩)) (rfl) (fun j u _ _ h => ath_keep (upd36 (by decide)) (Below.refl _ _) j u h) (ag_upd 30 (by decide) (by decide) (by intro h; cases h) h36 hI.g) ?_
        intro K hKK
        go_simp
        exact hKK
      · have h36 := ag36 hI.g (i := 31) (by decide) hLi
        obtain ⟨_, e0, rfl⟩ := hI.val 30 50 (by decide +kernel) (hw 30 (by kernel_rfl)) (by kernel_rfl)
        have hc : W.cell? ⟨w.heap.size, 5, none⟩ = some (.int .u64 ls) := (HEV.out W hI.g.1).1.cell rfl
        refine hI.pure (by kernel_rfl) (by decide +kernel) (i := 31) (d := 51) rfl rfl rfl (v := .int .u64 ls) (rfl) (fun j u _ _ h => ath_keep (upd36 (by decide)) (Below.refl _ _) j u h) (ag_upd 31 (by decide) (by decide) (by intro h; cases h) h36 hI.g) ?_
        intro K hKK
        go_simp
        exact hKK
      · have h36 := ag36 hI.g (i := 32) (by decide) hLi
        obtain ⟨_, e0, rfl⟩ := hI.val 29 49 (by decide +kernel) (hw 29 (by kernel_rfl)) (by kernel_rfl)
        obtain ⟨_, e1, rfl⟩ := hI.val 31 51 (by decide +kernel) (hw 31 (by kernel_rfl)) (by kernel_rfl)
        refine hI.more (by kernel_rfl) (by decide +kernel) (i := 32) (d := 52) rfl rfl rfl ?_
        intro K hKK
        have A := (Below.refl _ W).alloc (Nat.le_refl _) (Obj.cells #[.int .u64 ls', .int .u64 ls] 29)
        go_simp
        exact hKK _ _ ⟨W.heap.size, rfl, fun _ => ⟨hI.g.1.size, by simp, uz2 (ek_new W _ _)⟩⟩ (fun j u _ _ h => ath_keep (upd36 (by decide)) A j u h) (ag_upd 32 (by decide) (by decide) (by intro h; cases h) h36 (ag_below hI.g A))
      · have h36 := ag36 hI.g (i := 33) (by decide) hLi
        obtain ⟨_, e0, q, rfl, hq⟩ := hI.val 32 52 (by decide +kernel) (hw 32 (by kernel_rfl)) (by kernel_rfl)
        refine hI.more (by kernel_rfl) (by decide +kernel) (i := 33) (d := 53) rfl rfl rfl ?_
        intro K hKK
        go_simp
        refine (oru_any q 2 _ W (hq h36).2.2 rfl (by omega)).mono ?_
        rintro e W' ⟨rfl, hW⟩
        subst hW
        exact hKK _ _ (congrArg (Value.int .u64) (or0_two ls' ls)) (fun j u _ _ h => ath_keep (upd36 (by decide)) (Below.refl _ _) j u h) (ag_upd 33 (by decide) (by decide) (by intro h; cases h) h36 hI.g)
      · have h36 := ag36 hI.g (i := 34) (by decide) hLi
        obtain ⟨_, e0, rfl⟩ := hI.val 5 25 (by decide +kernel) (hw 5 (by kernel_rfl)) (by kernel_rfl)
        obtain ⟨_, e1, a4, c4, rfl, how⟩ := hI.val 9 29 (by decide +kernel) (hw 9 (by kernel_rfl)) (by kernel_rfl)
        obtain ⟨_, e2, rfl⟩ := hI.val 15 35 (by decide +kernel) (hw 15 (by kernel_rfl)) (by kernel_rfl)
        obtain ⟨_, e3, rfl⟩ := hI.val 21 41 (by decide +kernel) (hw 21 (by kernel_rfl)) (by kernel_rfl)
        obtain ⟨_, e4, rfl⟩ := hI.val 27 47 (by decide +kernel) (hw 27 (by kernel_rfl)) (by kernel_rfl)
        obtain ⟨_, e5, rfl⟩ := hI.val 33 53 (by decide +kernel) (hw 33 (by kernel_rfl)) (by kernel_rfl)
        refine hI.pure (by kernel_rfl) (by decide +kernel) (i := 34) (d := 54) rfl rfl rfl (v := .agg #[.int .i64 (put0 lg lg'), .slice a4 N c4, .int .u64 (put0 fl fl'), .int .u64 (put0 ct ct'), .int .u64 (put0 at9 at9'), .int .u64 (put0 ls ls')]) ⟨a4, c4, rfl, fun _ => how h36⟩ (fun j u _ _ h => ath_keep (upd36 (by decide)) (Below.refl _ _) j u h) (ag_upd 34 (by decide) (by decide) (by intro _; exact hw 9 (by kernel_rfl)) h36 hI.g) ?_
        intro K hKK
        go_simp
        exact hKK
      · have h36 := ag36 hI.g (i := 35) (by decide) hLi
        refine hI.more (by kernel_rfl) (by decide +kernel) (i := 35) (d := 8) rfl rfl rfl ?_
        intro K hKK
        have A := (Below.refl _ W).alloc (Nat.le_refl _) (Obj.cells #[.int .i64 0, .slice none 0 0, .int .u64 0, .int .u64 0, .int .u64 0, .int .u64 0] 31)
        go_simp
        exact hKK _ _ ⟨W.heap.size, rfl, hI.g.1.size, fun _ => ek_new W _ _, fun e => (by rw [upd36 (by decide), h36] at e; cases e)⟩ (fun j u _ _ h => ath_keep (upd36 (by decide)) A j u h) (ag_upd 35 (by decide) (by decide) (by intro h; cases h) h36 (ag_below hI.g A))
      · obtain ⟨_, e0, a4, c4, rfl, how⟩ := hI.val 34 54 (by decide +kernel) (hw 34 (by kernel_rfl)) (by kernel_rfl)
        obtain ⟨_, e1, p, rfl, hHp, hz, _⟩ := hI.val 35 8 (by decide +kernel) (hw 35 (by kernel_rfl)) (by kernel_rfl)
        have how := how hLi
        have hz := hz hLi
        refine hI.store (by decide +kernel) (i := 36) rfl rfl rfl ?_
        intro K hKK
        have z0 : W.cell? ⟨p, 0, none⟩ = some (.int .i64 0) := hz.cell rfl
        have y0 := hz.free 0
        have z1 : W.cell? ⟨p, 1, none⟩ = some (.slice none 0 0) := hz.cell rfl
        have y1 := hz.free 1
        have z2 : W.cell? ⟨p, 2, none⟩ = some (.int .u64 0) := hz.cell rfl
        have y2 := hz.free 2
        have z3 : W.cell? ⟨p, 3, none⟩ = some (.int .u64 0) := hz.cell rfl
        have y3 := hz.free 3
        have z4 : W.cell? ⟨p, 4, none⟩ = some (.int .u64 0) := hz.cell rfl
        have y4 := hz.free 4
        have z5 : W.cell? ⟨p, 5, none⟩ = some (.int .u64 0) := hz.cell rfl
        have y5 := hz.free 5
        have HZ := hide hz
        have HOW := hide how
        clear hz how
        go_simp
        have hg := egrow (k := 5) (u := .int .u64 (put0 ls ls')) (egrow (k := 4) (u := .int .u64 (put0 at9 at9')) (egrow (k := 3) (u := .int .u64 (put0 ct ct')) (egrow (k := 2) (u := .int .u64 (put0 fl fl')) (egrow (k := 1) (u := .slice a4 N c4) (fgb_set W ⟨p, 0, none⟩ (.int .i64 (put0 lg lg')))))))
        have hzz := (((((HZ.out.set 0 (.int .i64 (put0 lg lg'))).set 1 (.slice a4 N c4)).set 2 (.int .u64 (put0 fl fl'))).set 3 (.int .u64 (put0 ct ct'))).set 4 (.int .u64 (put0 at9 at9'))).set 5 (.int .u64 (put0 ls ls'))
        have hne := own_not_view HOW.out HZ.out
        have how2 := ownF_far HOW.out hg hne
        refine hKK _ (fun j e u _ _ hde hu h => ath_store (upd_same _ _) j u (fun hj => ?_) h) ⟨gb_comp hI.g.1 hg (fun k hk => .inr (by cases hk; exact hHp)), fun e9 => ?_, fun _ j hj => upd_more (hw j (waits_all (by kernel_rfl) j hj)), fun e34 => upd_more (hI.g.2.2.2 (by unfold upd at e34; simpa using e34))⟩
        · subst hj
          have he : some e = some 8 := hde.symm.trans (by kernel_rfl)
          cases he
          rw [e1] at hu
          cases hu
          exact ⟨p, rfl, hHp, fun e => (by rw [upd_same] at e; cases e), fun _ => ⟨a4, c4, hzz, how2⟩⟩
        · exact absurd (upd_more (hw 9 (by kernel_rfl))) (by rw [e9]; simp)
    case fin =>
      intro L A W hI hall
      have s0 := hI.kept 0 _ (by decide +kernel) rfl
      have s1 := hI.kept 1 _ (by decide +kernel) rfl
      have s2 := hI.kept 2 _ (by decide +kernel) rfl
      have s3 := hI.kept 3 _ (by decide +kernel) rfl
      have s4 := hI.kept 4 _ (by decide +kernel) rfl
      have s5 := hI.kept 5 _ (by decide +kernel) rfl
      have s6 := hI.kept 6 _ (by decide +kernel) rfl
      have s7 := hI.kept 7 _ (by decide +kernel) rfl
      obtain ⟨_, s8, p, rfl, hHp, _, hp2⟩ := hI.val 35 8 (by decide +kernel) (hall 35 (by decide +kernel)) (by kernel_rfl)
      have s9 := hI.kept 9 _ (by decide +kernel) rfl
      have s10 := hI.kept 10 _ (by decide +kernel) rfl
      have s11 := hI.kept 11 _ (by decide +kernel) rfl
      have s12 := hI.kept 12 _ (by decide +kernel) rfl
      have s13 := hI.kept 13 _ (by decide +kernel) rfl
      have s14 := hI.kept 14 _ (by decide +kernel) rfl
      have s15 := hI.kept 15 _ (by decide +kernel) rfl
      have s16 := hI.kept 16 _ (by decide +kernel) rfl
      have s17 := hI.kept 17 _ (by decide +kernel) rfl
      have s18 := hI.kept 18 _ (by decide +kernel) rfl
      have s19 := hI.kept 19 _ (by decide +kernel) rfl
      obtain ⟨_, s20, rfl⟩ := hI.val 0 20 (by decide +kernel) (hall 0 (by decide +kernel)) (by kernel_rfl)
      obtain ⟨_, s21, rfl⟩ := hI.val 1 21 (by decide +kernel) (hall 1 (by decide +kernel)) (by kernel_rfl)
      obtain ⟨_, s22, rfl⟩ := hI.val 2 22 (by decide +kernel) (hall 2 (by decide +kernel)) (by kernel_rfl)
      obtain ⟨_, s23, rfl⟩ := hI.val 3 23 (by decide +kernel) (hall 3 (by decide +kernel)) (by kernel_rfl)
      obtain ⟨_, s24, q0, rfl, _⟩ := hI.val 4 24 (by decide +kernel) (hall 4 (by decide +kernel)) (by kernel_rfl)
      obtain ⟨_, s25, rfl⟩ := hI.val 5 25 (by decide +kernel) (hall 5 (by decide +kernel)) (by kernel_rfl)
      obtain ⟨_, s26, rfl⟩ := hI.val 6 26 (by decide +kernel) (hall 6 (by decide +kernel)) (by kernel_rfl)
      obtain ⟨_, s27, rfl⟩ := hI.val 7 27 (by decide +kernel) (hall 7 (by decide +kernel)) (by kernel_rfl)
      obtain ⟨_, s28, rfl⟩ := hI.val 8 28 (by decide +kernel) (hall 8 (by decide +kernel)) (by kernel_rfl)
      obtain ⟨_, s29, a7, c7, rfl, _⟩ := hI.val 9 29 (by decide +kernel) (hall 9 (by decide +kernel)) (by kernel_rfl)
      obtain ⟨_, s30, rfl⟩ := hI.val 10 30 (by decide +kernel) (hall 10 (by decide +kernel)) (by kernel_rfl)
      obtain ⟨_, s31, rfl⟩ := hI.val 11 31 (by decide +kernel) (hall 11 (by decide +kernel)) (by kernel_rfl)
      obtain ⟨_, s32, rfl⟩ := hI.val 12 32 (by decide +kernel) (hall 12 (by decide +kernel)) (by kernel_rfl)
      obtain ⟨_, s33, rfl⟩ := hI.val 13 33 (by decide +kernel) (hall 13 (by decide +kernel)) (by kernel_rfl)
      obtain ⟨_, s34, q1, rfl, _⟩ := hI.val 14 34 (by decide +kernel) (hall 14 (by decide +kernel)) (by kernel_rfl)
      obtain ⟨_, s35, rfl⟩ := hI.val 15 35 (by decide +kernel) (hall 15 (by decide +kernel)) (by kernel_rfl)
      obtain ⟨_, s36, rfl⟩ := hI.val 16 36 (by decide +kernel) (hall 16 (by decide +kernel)) (by kernel_rfl)
      obtain ⟨_, s37, rfl⟩ := hI.val 17 37 (by decide +kernel) (hall 17 (by decide +kernel)) (by kernel_rfl)
      obtain ⟨_, s38, rfl⟩ := hI.val 18 38 (by decide +kernel) (hall 18 (by decide +kernel)) (by kernel_rfl)
      obtain ⟨_, s39, rfl⟩ := hI.val 19 39 (by decide +kernel) (hall 19 (by decide +kernel)) (by kernel_rfl)
      obtain ⟨_, s40, q2, rfl, _⟩ := hI.val 20 40 (by decide +kernel) (hall 20 (by decide +kernel)) (by kernel_rfl)
      obtain ⟨_, s41, rfl⟩ := hI.val 21 41 (by decide +kernel) (hall 21 (by decide +kernel)) (by kernel_rfl)
      obtain ⟨_, s42, rfl⟩ := hI.val 22 42 (by decide +kernel) (hall 22 (by decide +kernel)) (by kernel_rfl)
      obtain ⟨_, s43, rfl⟩ := hI.val 23 43 (by decide +kernel) (hall 23 (by decide +kernel)) (by kernel_rfl)
      obtain ⟨_, s44, rfl⟩ := hI.val 24 44 (by decide +kernel) (hall 24 (by decide +kernel)) (by kernel_rfl)
      obtain ⟨_, s45, rfl⟩ := hI.val 25 45 (by decide +kernel) (hall 25 (by decide +kernel)) (by kernel_rfl)
      obtain ⟨_, s46, q3, rfl, _⟩ := hI.val 26 46 (by decide +kernel) (hall 26 (by decide +kernel)) (by kernel_rfl)
      obtain ⟨_, s47, rfl⟩ := hI.val 27 47 (by decide +kernel) (hall 27 (by decide +kernel)) (by kernel_rfl)
      obtain ⟨_, s48, rfl⟩ := hI.val 28 48 (by decide +kernel) (hall 28 (by decide +kernel)) (by kernel_rfl)
      obtain ⟨_, s49, rfl⟩ := hI.val 29 49 (by decide +kernel) (hall 29 (by decide +kernel)) (by kernel_rfl)
      obtain ⟨_, s50, rfl⟩ := hI.val 30 50 (by decide +kernel) (hall 30 (by decide +kernel)) (by kernel_rfl)
      obtain ⟨_, s51, rfl⟩ := hI.val 31 51 (by decide +kernel) (hall 31 (by decide +kernel)) (by kernel_rfl)
      obtain ⟨_, s52, q4, rfl, _⟩ := hI.val 32 52 (by decide +kernel) (hall 32 (by decide +kernel)) (by kernel_rfl)
      obtain ⟨_, s53, rfl⟩ := hI.val 33 53 (by decide +kernel) (hall 33 (by decide +kernel)) (by kernel_rfl)
      obtain ⟨_, s54, a8, c8, rfl, _⟩ := hI.val 34 54 (by decide +kernel) (hall 34 (by decide +kernel)) (by kernel_rfl)
      have s55 := hI.kept 55 _ (by decide +kernel) rfl
      have s56 := hI.kept 56 _ (by decide +kernel) rfl
      have s57 := hI.kept 57 _ (by decide +kernel) rfl
      have s58 := hI.kept 58 _ (by decide +kernel) rfl
      have s59 := hI.kept 59 _ (by decide +kernel) rfl
      have hfr := act_lit (l := [.agg #[.int .i64 lg, .slice fa fn fc, .int .u64 fl, .int .u64 ct, .int .u64 at9, .int .u64 ls], .agg #[.slice da dn dc, .slice aa an ac, .int .i64 lg', .int .u64 fl', .int .u64 ct', .int .u64 at9', .int .u64 ls'], .pointer (some ⟨w.heap.size, 0, none⟩), .pointer (some ⟨w.heap.size + 1, 0, none⟩), .pointer (some ⟨w.heap.size + 1 + 1, 0, none⟩), .bool false, .slice a6 m.length c6, .bool true, .pointer (some ⟨p, 0, none⟩), .tuple #[.slice a6 m.length c6, .bool true], .pointer (some ⟨w.heap.size, 1, none⟩), .slice fa fn fc, .pointer (some ⟨w.heap.size + 1, 0, none⟩), .slice da dn dc, .tuple #[.slice a6 m.length c6, .bool true], .slice a6 m.length c6, .bool true, .bool true, .bool false, undef, .pointer (some ⟨w.heap.size + 1, 2, none⟩), .int .i64 lg', .pointer (some ⟨w.heap.size, 0, none⟩), .int .i64 lg, .slice (some ⟨q0, 0, none⟩) 2 2, .int .i64 (put0 lg lg'), .slice a6 m.length c6, .pointer (some ⟨w.heap.size + 1, 1, none⟩), .slice aa an ac, .slice a7 N c7, .pointer (some ⟨w.heap.size + 1, 3, none⟩), .int .u64 fl', .pointer (some ⟨w.heap.size, 2, none⟩), .int .u64 fl, .slice (some ⟨q1, 0, none⟩) 2 2, .int .u64 (put0 fl fl'), .pointer (some ⟨w.heap.size + 1, 4, none⟩), .int .u64 ct', .pointer (some ⟨w.heap.size, 3, none⟩), .int .u64 ct, .slice (some ⟨q2, 0, none⟩) 2 2, .int .u64 (put0 ct ct'), .pointer (some ⟨w.heap.size + 1, 5, none⟩), .int .u64 at9', .pointer (some ⟨w.heap.size, 4, none⟩), .int .u64 at9, .slice (some ⟨q3, 0, none⟩) 2 2, .int .u64 (put0 at9 at9'), .pointer (some ⟨w.heap.size + 1, 6, none⟩), .int .u64 ls', .pointer (some ⟨w.heap.size, 5, none⟩), .int .u64 ls, .slice (some ⟨q4, 0, none⟩) 2 2, .int .u64 (put0 ls ls'), .agg #[.int .i64 (put0 lg lg'), .slice a8 N c8, .int .u64 (put0 fl fl'), .int .u64 (put0 ct ct'), .int .u64 (put0 at9 at9'), .int .u64 (put0 ls ls')], undef, undef, undef, undef, undef]) hI.df hI.sz (fun d hd => match d, hd with | 0, _ => s0 | 1, _ => s1 | 2, _ => s2 | 3, _ => s3 | 4, _ => s4 | 5, _ => s5 | 6, _ => s6 | 7, _ => s7 | 8, _ => s8 | 9, _ => s9 | 10, _ => s10 | 11, _ => s11 | 12, _ => s12 | 13, _ => s13 | 14, _ => s14 | 15, _ => s15 | 16, _ => s16 | 17, _ => s17 | 18, _ => s18 | 19, _ => s19 | 20, _ => s20 | 21, _ => s21 | 22, _ => s22 | 23, _ => s23 | 24, _ => s24 | 25, _ => s25 | 26, _ => s26 | 27, _ => s27 | 28, _ => s28 | 29, _ => s29 | 30, _ => s30 | 31, _ => s31 | 32, _ => s32 | 33, _ => s33 | 34, _ => s34 | 35, _ => s35 | 36, _ => s36 | 37, _ => s37 | 38, _ => s38 | 39, _ => s39 | 40, _ => s40 | 41, _ => s41 | 42, _ => s42 | 43, _ => s43 | 44, _ => s44 | 45, _ => s45 | 46, _ => s46 | 47, _ => s47 | 48, _ => s48 | 49, _ => s49 | 50, _ => s50 | 51, _ => s51 | 52, _ => s52 | 53, _ => s53 | 54, _ => s54 | 55, _ => s55 | 56, _ => s56 | 57, _ => s57 | 58, _ => s58 | 59, _ => s59 | k + 60, hd => absurd hd (Nat.not_lt.2 (Nat.le_add_left 60 k)))
      obtain ⟨a4, c4, hek, how⟩ := hp2 (hall 36 (by decide +kernel))
      have hev := HEV.out W hI.g.1
      have HSW := hide (Nat.le_trans HSZ.out hI.g.1.size)
      rw [hfr]
      clear hfr hI hall hp2 s0 s1 s2 s3 s4 s5 s6 s7 s8 s9 s10 s11 s12 s13 s14 s15 s16 s17 s18 s19 s20 s21 s22 s23 s24 s25 s26 s27 s28 s29 s30 s31 s32 s33 s34 s35 s36 s37 s38 s39 s40 s41 s42 s43 s44 s45 s46 s47 s48 s49 s50 s51 s52 s53 s54 s55 s56 s57 s58 s59
      obtain ⟨hc4, hf4⟩ := ownF_fsN how HWMA.out HN.out
      have HEK := hide hek
      have HOW := hide how
      have HZ2 := hide hev.2.2.1
      have HBW := hide hev.2.2.2
      obtain ⟨o, ho⟩ : ∃ o, vok ⟨put0 lg lg', m ++ a, put0 fl fl', put0 ct ct', put0 at9 at9', put0 ls ls'⟩ = o := ⟨_, rfl⟩
      have HOK := hide (ok_any a4 N c4 ⟨put0 lg lg', m ++ a, put0 fl fl', put0 ct ct', put0 at9 at9', put0 ls ls'⟩ W hf4 (by have := HLMA.out; omega) hc4)
      have HFS := hide hf4
      have HRR : Hid (r = if o = true then some ⟨put0 lg lg', m ++ a, put0 fl fl', put0 ct ct', put0 at9 at9', put0 ls ls'⟩ else none) := hide (by rw [HRX.out, ← ho]; rfl)
      rw [ho] at HOK
      unfold vwV at HOK
      simp only at HOK
      have k0 : W.cell? ⟨p, 0, none⟩ = some (.int .i64 (put0 lg lg')) := hek.cell rfl
      have k1 : W.cell? ⟨p, 1, none⟩ = some (.slice a4 N c4) := hek.cell rfl
      have k2 : W.cell? ⟨p, 2, none⟩ = some (.int .u64 (put0 fl fl')) := hek.cell rfl
      have k3 : W.cell? ⟨p, 3, none⟩ = some (.int .u64 (put0 ct ct')) := hek.cell rfl
      have k4 : W.cell? ⟨p, 4, none⟩ = some (.int .u64 (put0 at9 at9')) := hek.cell rfl
      have k5 : W.cell? ⟨p, 5, none⟩ = some (.int .u64 (put0 ls ls')) := hek.cell rfl
      clear hek how hev HRX ho hf4
      go_wp2_with fail
      refine HOK.out.mono ?_
      rintro e w9 ⟨rfl, hb9⟩
      have HEK9 := hide (HEK.out.below hb9 HEK.out.lt)
      have HOW9 := hide (ownF_keep HOW.out hb9)
      have HZ9 := hide (HZ2.out.below hb9 HZ2.out.lt)
      have HBW9 := hide (HBW.out.trans (hb9.mono HBW.out.size))
      have HFS9 := hide (HFS.out.below hb9 (Nat.le_refl _))
      clear hb9 HOK k0 k1 k2 k3 k4 k5
      have z0 : w9.cell? ⟨w.heap.size + 1 + 1, 0, none⟩ = some (.int .i64 0) := HZ9.out.cell rfl
      have y0 : w9.frozen? ⟨w.heap.size + 1 + 1, 0, none⟩ = false := HZ9.out.free 0
      have z1 : w9.cell? ⟨w.heap.size + 1 + 1, 1, none⟩ = some (.slice none 0 0) := HZ9.out.cell rfl
      have y1 : w9.frozen? ⟨w.heap.size + 1 + 1, 1, none⟩ = false := HZ9.out.free 1
      have z2 : w9.cell? ⟨w.heap.size + 1 + 1, 2, none⟩ = some (.int .u64 0) := HZ9.out.cell rfl
      have y2 : w9.frozen? ⟨w.heap.size + 1 + 1, 2, none⟩ = false := HZ9.out.free 2
      have z3 : w9.cell? ⟨w.heap.size + 1 + 1, 3, none⟩ = some (.int .u64 0) := HZ9.out.cell rfl
      have y3 : w9.frozen? ⟨w.heap.size + 1 + 1, 3, none⟩ = false := HZ9.out.free 3
      have z4 : w9.cell? ⟨w.heap.size + 1 + 1, 4, none⟩ = some (.int .u64 0) := HZ9.out.cell rfl
      have y4 : w9.frozen? ⟨w.heap.size + 1 + 1, 4, none⟩ = false := HZ9.out.free 4
      have z5 : w9.cell? ⟨w.heap.size + 1 + 1, 5, none⟩ = some (.int .u64 0) := HZ9.out.cell rfl
      have y5 : w9.frozen? ⟨w.heap.size + 1 + 1, 5, none⟩ = false := HZ9.out.free 5
      cases o with
      | false =>
        obtain rfl : r = none := by rw [HRR.out]; rfl
        clear HRR
        go_wp2
        have HZS := zset HZ9.out HBW9.out (by omega) (.int .i64 0) (.slice none 0 0) (.int .u64 0) (.int .u64 0) (.int .u64 0) (.int .u64 0)
        refine bodyPost_ret (papply_results (b := false) HZS.1 _ rfl rfl) rfl ?_
        exact ⟨rfl, HZS.2⟩
      | true =>
        have k0 : w9.cell? ⟨p, 0, none⟩ = some (.int .i64 (put0 lg lg')) := HEK9.out.cell rfl
        have k1 : w9.cell? ⟨p, 1, none⟩ = some (.slice a4 N c4) := HEK9.out.cell rfl
        have k2 : w9.cell? ⟨p, 2, none⟩ = some (.int .u64 (put0 fl fl')) := HEK9.out.cell rfl
        have k3 : w9.cell? ⟨p, 3, none⟩ = some (.int .u64 (put0 ct ct')) := HEK9.out.cell rfl
        have k4 : w9.cell? ⟨p, 4, none⟩ = some (.int .u64 (put0 at9 at9')) := HEK9.out.cell rfl
        have k5 : w9.cell? ⟨p, 5, none⟩ = some (.int .u64 (put0 ls ls')) := HEK9.out.cell rfl
        obtain rfl : r = some ⟨put0 lg lg', m ++ a, put0 fl fl', put0 ct ct', put0 at9 at9', put0 ls ls'⟩ := by rw [HRR.out]; rfl
        clear HRR
        go_wp2
        have HZS := zset HZ9.out HBW9.out (by omega) (.int .i64 (put0 lg lg')) (.slice a4 N c4) (.int .u64 (put0 fl fl')) (.int .u64 (put0 ct ct')) (.int .u64 (put0 at9 at9')) (.int .u64 (put0 ls ls'))
        have hg := egrow (k := 5) (u := .int .u64 (put0 ls ls')) (egrow (k := 4) (u := .int .u64 (put0 at9 at9')) (egrow (k := 3) (u := .int .u64 (put0 ct ct')) (egrow (k := 2) (u := .int .u64 (put0 fl fl')) (egrow (k := 1) (u := .slice a4 N c4) (fgb_set w9 ⟨w.heap.size + 2, 0, none⟩ (.int .i64 (put0 lg lg')))))))
        refine bodyPost_ret (papply_results (b := true) HZS.1 _ rfl rfl) rfl ?_
        refine ⟨⟨a4, c4, ?_, ?_, ?_⟩, HZS.2⟩
        · show _ = Ending.returned (.tuple #[vwV a4 (m ++ a).length c4 _, .bool true])
          rw [HN.out]
          rfl
        · show OwnF _ _ (.slice a4 (m ++ a).length c4) (m ++ a)
          rw [HN.out]
          exact ownF_base (ownF_grown HOW9.out hg (fun k hk => by have : w.heap.size + 2 = k := Option.some.inj hk; omega)) (by omega)
        · show Fs _ a4 (m ++ a).length c4 (m ++ a)
          rw [HN.out]
          refine HFS9.out.gb hg (fun x hx e => ?_)
          have h1 : x.block = w.heap.size + 2 := Option.some.inj e
          have h2 := (ownF_fsN2 HOW9.out HWMA.out HN.out) x hx
          omega

end Go.Proofs.YtcahlmneancapaaGreatDoor.Clep
