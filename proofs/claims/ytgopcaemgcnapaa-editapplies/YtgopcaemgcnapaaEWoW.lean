/- What edit.without does when called (a walk over the translated program): for any files and any numbers, at most a thousand of each. -/
import Derived.Test.YtgopcaemgcnapaaEWo
namespace Go.Proofs.Ytgopcaemgcnapaa.Clep
open Go.RowKit Go.Maps
set_option linter.unusedVariables false
set_option maxRecDepth 10000

set_option maxHeartbeats 2000000 in
theorem without_any (fa da : Option Addr) (fn fc dn dc : Nat) (l : List Fi) (d : List Int) (w : World) (hf : Fs w fa fn fc l) (hd : Zs w da dn dc d) (hfn : fn ≤ 1000) (hdn : dn ≤ 1000) :
    Calls Try.prog 26 #[.slice fa fn fc, .slice da dn dc] w (WoR (wout l d) w) := by
  have hmm := makemap_hint
  have hll := hf.1
  have hld := hd.1
  have HF := hide (fun W (hW : Below w.heap.size w W) => hf.below hW (Nat.le_refl _))
  have HD := hide (fun W (hW : Below w.heap.size w W) => hd.below hW (Nat.le_refl _))
  have HW := hide hf.2.2.1
  have HRN := hide (show ∀ W, wout l d = none → Below w.heap.size w W → WoR (wout l d) w (.returned (.tuple #[.slice none 0 0, .bool false])) W from fun W h1 h2 => by rw [h1]; exact ⟨rfl, h2⟩)
  have HRS := hide (show ∀ W v, wout l d = some (stay l d) → OwnF W w.heap.size v (stay l d) → Below w.heap.size w W → WoR (wout l d) w (.returned (.tuple #[v, .bool true])) W from fun W v h1 h2 h3 => by rw [h1]; exact ⟨⟨v, rfl, h2⟩, h3⟩)
  have HTW := hide (show ∀ (k : Nat) (z : Int), d[k]? = some z → (d.take k).contains z = true → wout l d = none from fun k z h1 h2 => wout_twice h1 h2)
  have HGO := hide (show ∀ (k : Nat) (z : Int), d[k]? = some z → hasN l z = false → wout l d = none from fun k z h1 h2 => wout_gone h1 h2)
  have HYES := hide (show ndp d = true → d.all (hasN l) = true → wout l d = some (stay l d) from fun h1 h2 => by unfold wout; rw [h1, h2]; rfl)
  generalize WoR (wout l d) w = R at *
  generalize wout l d = r at *
  clear hf hd
  go_enter Try.func26, Try.ntmps26
  go_wp2_with fail
  go_loopw [23] (fun s wr => ∃ i : Nat, i ≤ dn ∧ s = .int .i64 i ∧ Hid (ndp (d.take i) = true) ∧ Hid (Mpc wr w.heap.size i (d.take i) (fun _ => 0)) ∧ Hid (Below w.heap.size w wr)) (fun s _ => dn - (intOf s).toNat)
  case atStart => exact ⟨0, by omega, rfl, hide rfl, hide (mpc_new w), hide ((Below.refl _ w).alloc (Nat.le_refl _) _)⟩
  case round =>
    obtain ⟨i, hi, rfl, hnd, hM, hB⟩ := hrel
    by_cases hlt : i < dn
    · obtain ⟨z, b, off, hz, rfl, hc, hz1, hz2⟩ := zs_at (HD.out wr hB.out) i hlt
      have hzr : -9223372036854775808 ≤ z ∧ z ≤ 9223372036854775807 := ⟨hz1, hz2⟩
      have HZ := hide hz
      have hil : i ≤ 1000000 := by omega
      have HKS := hide (fun s => snoc_contains (d.take i) z s)
      obtain ⟨o, ho⟩ : ∃ o, (d.take i).contains z = o := ⟨_, rfl⟩
      have HO := hide ho
      clear hz hz1 hz2 ho
      cases o with
      | true =>
        have HR := hide (HRN.out wr (HTW.out i z HZ.out HO.out) hB.out)
        go_wp2_with (first
          | (at_lookup; refine wpList_look_mpc rfl _ _ rfl w.heap.size i (d.take i) (fun _ => 0) rfl hM.out z rfl hzr true 0 HO.out rfl ?_)
          | fail)
        exact HR.out
      | false =>
        go_wp2_with (first
          | (at_lookup; refine wpList_look_mpc rfl _ _ rfl w.heap.size i (d.take i) (fun _ => 0) rfl hM.out z rfl hzr false 0 HO.out rfl ?_)
          | (at_mapUpdate; refine wpList_put_mpc rfl _ _ _ rfl w.heap.size i (d.take i) (fun _ => 0) rfl hM.out hil z rfl hzr 0 rfl (by omega) (d.take i ++ [z]) HKS.out ?_; intro w2 hM2 hg2; have HM2 := hide (hM2.more (Nat.le_refl _) (g' := fun _ => 0) (fun s => by split <;> rfl)); have HB2 := hide (hB.out.grown hg2 hB.out.size (fun j hj => by cases hj; exact Nat.le_refl _)); clear hM2 hg2)
          | fail)
        go_roundw
        case rel => exact ⟨i + 1, by omega, by go_num, hide (by rw [take_next HZ.out, ndp_snoc, hnd.out, HO.out]; rfl), hide (by rw [take_next HZ.out]; exact HM2.out), HB2⟩
        case measure => simp [intOf]; omega
    · obtain rfl : i = dn := by omega
      have htk : d.take i = d := List.take_of_length_le (by omega)
      rw [htk] at hnd hM
      clear htk
      go_wp2_with fail
      have HLT := hide hld
      go_loopw [11, 39] (fun v s wr => ∃ k : Nat, k ≤ fn ∧ s = .int .i64 k ∧ Hid (Mpc wr w.heap.size (i + k) d (gW l d k)) ∧ Hid (OwnF wr (w.heap.size + 1) v (stay (l.take k) d)) ∧ Hid (Below w.heap.size w wr) ∧ Hid (w.heap.size + 1 ≤ wr.heap.size)) (fun _ s _ => fn - (intOf s).toNat)
      case atStart => exact ⟨0, by omega, rfl, hide (hM.out.more (by omega) (fun s => by unfold gW cntN; simp)), hide (ownF_nil _ _), hB, hide (by obtain ⟨D, ho, _⟩ := hM.out; exact ho.lt)⟩
      case round =>
        obtain ⟨k, hk, rfl, hM2, hO2, hB2, hS2⟩ := hrel
        by_cases hlt2 : k < fn
        · obtain ⟨f, b, off, hf, rfl, c0, c1, hfw⟩ := fs_at (HF.out _ hB2.out) k hlt2
          have HFW := hide hfw
          have HSI := hide (@stay_in l d k f hf)
          have HSO := hide (@stay_out l d k f hf)
          have HCN := hide (cntN_next hf)
          have hfr := hfw.2
          obtain ⟨fL, fN⟩ := f
          simp only at c0 c1 hfr HSI HSO HCN
          obtain ⟨o, ho⟩ : ∃ o, d.contains fN = o := ⟨_, rfl⟩
          have HO := hide ho
          rw [ho] at HSI HSO
          obtain ⟨C, hC⟩ : ∃ C : Nat, cntN (l.take k) fN = C := ⟨_, rfl⟩
          have hCle : C ≤ 1000 := by rw [← hC]; exact Nat.le_trans (cntN_le _ _) (by rw [List.length_take]; omega)
          have HC := hide hC
          have HBA := hide (hB2.out.alloc hB2.out.size (Obj.cells #[.int .i64 fL, .int .i64 fN] 29))
          have A1 := (Below.refl _ wr).alloc (Nat.le_refl _) (Obj.cells #[.int .i64 fL, .int .i64 fN] 29)
          have HAS := hide A1.size
          have HM3 := hide (hM2.out.keep A1)
          have HO3 := hide (ownF_keep hO2.out A1)
          have hik : i + k ≤ 1000000 := by omega
          clear hf hfw ho hC A1
          cases o with
          | true =>
            have hgz : gW l d k fN = (C : Int) := by unfold gW; rw [if_pos HO.out, HC.out]
            have HGZ := hide hgz
            have hwr : IntKind.i64.wrap ((C : Int) + 1) = (C : Int) + 1 := by
              simp [IntKind.wrap, IntKind.bits, IntKind.signed]
              omega
            have HKS := hide (show ∀ s, d.contains s = (d.contains s || (fN == s)) from fun s => by
              by_cases e : fN = s
              · subst e; rw [HO.out]; rfl
              · rw [show (fN == s) = false from by simpa using e, Bool.or_false])
            clear hgz
            go_wp2_with (first
              | (at_lookup; refine wpList_look_mpc rfl _ _ rfl w.heap.size (i + k) d (gW l d k) rfl HM3.out fN rfl hfr true C HO.out HGZ.out ?_)
              | (at_mapUpdate; refine wpList_put_mpc rfl _ _ _ rfl w.heap.size (i + k) d (gW l d k) rfl HM3.out hik fN rfl hfr ((C : Int) + 1) rfl (by omega) d HKS.out ?_; intro w2 hM4 hg2; have HM4 := hide hM4; have HG2 := hide hg2; clear hM4 hg2)
              | fail)
            go_roundw
            case rel =>
              refine ⟨k + 1, by omega, by go_num, hide (HM4.out.more (by omega) (fun s => ?_)), hide ?_, hide (HBA.out.grown HG2.out HBA.out.size (fun j hj => by cases hj; exact Nat.le_refl _)), hide ?_⟩
              · show (if s = fN then ((C : Int) + 1) else gW l d k s) = gW l d (k + 1) s
                by_cases e : s = fN
                · subst e; unfold gW; rw [if_pos rfl, if_pos HO.out, HCN.out s, if_pos rfl, HC.out]; omega
                · rw [if_neg e]; unfold gW; rw [HCN.out s, if_neg (show ¬ fN = s from fun h => e h.symm), Nat.add_zero]
              · rw [HSI.out rfl]
                exact ownF_grown HO3.out HG2.out (fun j hj => by cases hj; omega)
              · exact Nat.le_trans (Nat.le_trans hS2.out HAS.out) HG2.out.size
            case measure => simp [intOf]; omega
          | false =>
            have HGZ := hide (show gW l d k fN = 0 by unfold gW; rw [if_neg (by rw [HO.out]; simp)])
            have A2 := (Below.refl _ (wr.alloc (Obj.cells #[.int .i64 fL, .int .i64 fN] 29))).alloc (Nat.le_refl _) (Obj.cells #[.int .i64 fL, .int .i64 fN] 29)
            have HBA2 := hide (HBA.out.alloc HBA.out.size (Obj.cells #[.int .i64 fL, .int .i64 fN] 29))
            have HM4 := hide (HM3.out.keep A2)
            have HO4 := hide (ownF_keep HO3.out A2)
            have HFS := hide (fs_block HFW.out (fhpS (wr.alloc (Obj.cells #[.int .i64 fL, .int .i64 fN] 29)) (Obj.cells #[.int .i64 fL, .int .i64 fN] 29) (wr.heap.size + 1) (by simp)))
            have HLN := hide (show (stay (l.take k) d).length + 1 ≤ 3518437208883 from by
              have := List.length_filter_le (fun f : Fi => !(d.contains f.N)) (l.take k)
              rw [List.length_take] at this
              unfold stay
              omega)
            have HS4 := hide (show w.heap.size + 1 ≤ ((wr.alloc (Obj.cells #[.int .i64 fL, .int .i64 fN] 29)).alloc (Obj.cells #[.int .i64 fL, .int .i64 fN] 29)).heap.size from Nat.le_trans (Nat.le_trans hS2.out HAS.out) A2.size)
            clear A2
            go_wp2_with (first
              | (at_lookup; refine wpList_look_mpc rfl _ _ rfl w.heap.size (i + k) d (gW l d k) rfl HM3.out fN rfl hfr false 0 HO.out HGZ.out ?_)
              | (at_builtin; refine wpList_append_files rfl _ _ rfl (w.heap.size + 1) _ (stay (l.take k) d) rfl HO4.out _ 1 1 [⟨fL, fN⟩] rfl HFS.out HLN.out HS4.out ?_; intro v5 w5 o5 g5 k5; have HO5 := hide o5; have HG5 := hide g5; have HK5 := hide k5; clear o5 g5 k5)
              | fail)
            go_roundw
            case rel =>
              refine ⟨k + 1, by omega, by go_num, hide ((HM4.out.kept HG5.out (fun e => by have := HK5.out _ e.symm; omega)).more (by omega) (fun s => ?_)), hide (by rw [HSO.out rfl]; exact HO5.out), hide (HBA2.out.grown HG5.out HBA2.out.size (fun j hj => by have := HK5.out j hj; omega)), hide (Nat.le_trans HS4.out HG5.out.size)⟩
              unfold gW
              rw [HCN.out s]
              by_cases e : fN = s
              · subst e; rw [if_neg (by rw [HO.out]; simp), if_neg (by rw [HO.out]; simp)]
              · rw [if_neg e, Nat.add_zero]
            case measure => simp [intOf]; omega
        · obtain rfl : k = fn := by omega
          have htl : l.take k = l := List.take_of_length_le (by omega)
          have HMF : Hid (∀ z, d.contains z = true → gW l d k z = (cntN l z : Int)) := hide (fun z h => by unfold gW; rw [if_pos h, htl])
          rw [htl] at hO2
          clear htl
          go_wp2_with fail
          go_loop [63] (fun s => ∃ j : Nat, j ≤ i ∧ s = .int .i64 j ∧ Hid ((d.take j).all (hasN l) = true)) (fun s => i - (intOf s).toNat)
          case atStart => exact ⟨0, by omega, rfl, hide (by simp)⟩
          case round =>
            obtain ⟨j, hj, rfl, hall⟩ := hrel
            by_cases hlt3 : j < i
            · obtain ⟨z, b, off, hz, rfl, hc, hz1, hz2⟩ := zs_at (HD.out _ hB2.out) j hlt3
              have hzr : -9223372036854775808 ≤ z ∧ z ≤ 9223372036854775807 := ⟨hz1, hz2⟩
              have HZ := hide hz
              have HGZ := hide (HMF.out z (by rw [List.contains_iff_mem]; exact List.mem_of_getElem? hz))
              obtain ⟨C, hC⟩ : ∃ C : Nat, cntN l z = C := ⟨_, rfl⟩
              rw [hC] at HGZ
              by_cases hC0 : C = 0
              · subst hC0
                have HR := hide (HRN.out _ (HGO.out j z hz ((cntN_zero l z).1 hC)) hB2.out)
                clear hz hz1 hz2 hC
                go_wp2_with (first
                  | (at_lookup; refine wpList_at_mpc rfl _ _ rfl w.heap.size (i + k) d (gW l d k) rfl hM2.out z rfl hzr 0 HGZ.out ?_)
                  | fail)
                exact HR.out
              · have HN := hide (all_more hz (show hasN l z = true from by
                  cases h : hasN l z with
                  | true => rfl
                  | false => exact absurd ((cntN_zero l z).2 h) (by rw [hC]; exact hC0)) hall.out)
                have q : ((C : Int) == 0) = false := by simpa using hC0
                clear hz hz1 hz2 hC hC0
                go_wp2_with (first
                  | (at_lookup; refine wpList_at_mpc rfl _ _ rfl w.heap.size (i + k) d (gW l d k) rfl hM2.out z rfl hzr C HGZ.out ?_)
                  | fail)
                go_round
                case rel => exact ⟨j + 1, by omega, by go_num, HN⟩
                case measure => simp [intOf]; omega
            · obtain rfl : j = i := by omega
              have hall2 : d.all (hasN l) = true := by have := hall.out; rwa [List.take_of_length_le (by omega)] at this
              have HR := hide (fun v h => HRS.out _ v (HYES.out hnd.out hall2) h hB2.out)
              clear hall2
              go_wp2
              exact HR.out _ (ownF_base hO2.out (by omega))

end Go.Proofs.Ytgopcaemgcnapaa.Clep
