/- What resume of a Manifest does when called (a walk over the translated program). Numbers of files from 1 to 99. -/
import Derived.Test.YtcahlmneancapaaGreatDoorFv23
import Derived.Test.YtcahlmneancapaaGreatDoorFv24
import Derived.Test.YtcahlmneancapaaGreatDoorFv12
import Derived.Test.YtcahlmneancapaaGreatDoorFv13
import Derived.Test.YtcahlmneancapaaGreatDoorFv18
import Derived.Test.YtcahlmneancapaaGreatDoorFv11
import Derived.Test.YtcahlmneancapaaGreatDoorFv03
namespace Go.Proofs.YtcahlmneancapaaGreatDoor.Clep
open Go.RowKit Go.Maps Go.Sort
set_option linter.unusedVariables false
set_option maxRecDepth 10000

theorem held_bytes {F : Nat → Prop} {w : World} {R : Nat} {S : St} {s : ByteArray} {X : List Int} (h : Held F w R S) (e : readS S s = (0, X)) : ByteL X ∧ X.length ≤ 250000 := by
  obtain ⟨G, D, -⟩ := h
  unfold readS at e
  split at e
  · injection e with e1 e2; cases e1
  · split at e
    · injection e with e1 e2; cases e1
    · split at e
      · injection e with e1 e2; cases e1
      · rename_i f hf
        injection e with e1 e2
        have := D.files f (fileAt_mem hf).1
        rw [← e2]
        exact ⟨this.rng, this.len⟩
theorem SP_upto : ∀ (m : Nat) (X : List Int), X.length ≤ m → (SP X).2.1 ≤ X.length
  | 0, X, h => by
    have : X = [] := List.length_eq_zero_iff.1 (by omega)
    subst this
    rw [SP_nil]
    exact Nat.le_refl _
  | m + 1, X, h => by
    by_cases hx : X = []
    · subst hx
      rw [SP_nil]
      exact Nat.le_refl _
    by_cases hc : ce X = 0
    · have hk := ce_ok X hc
      have h2 := SP_upto m (X.drop ((ln X).toNat + 12)) (by rw [List.length_drop]; omega)
      rw [List.length_drop] at h2
      rw [SP_good X hc]
      show (ln X).toNat + 12 + (SP (X.drop ((ln X).toNat + 12))).2.1 ≤ X.length
      omega
    · rw [SP_bad X hx hc]
      exact Nat.zero_le _
theorem rpE_le {X : List Int} {V : Vw} {k : Nat} (h : rpE X = some (V, k)) : k = (SP X).2.1 ∧ 0 < (SP X).1.length ∧ vok V = true := by
  unfold rpE at h
  split at h
  · rename_i hc
    cases hf : fE zV (SP X).1 with
    | none => rw [hf] at h; cases h
    | some U =>
      rw [hf] at h
      injection h with h
      injection h with h1 h2
      subst h1
      refine ⟨h2.symm, hc.2, ?_⟩
      rcases fE_ok _ _ _ hf with ⟨h3, _⟩ | h3
      · rw [h3] at hc; simp at hc
      · exact h3
  · cases h
/-- What resume answers. -/
def ReA (F : Nat → Prop) (R n : Nat) (S : St) (X : List Int) (w : World) (e : Ending) (w' : World) : Prop := match rpE X with
  | none => e = .returned (.tuple #[.pointer none, .bool false, .bool false]) ∧ Held F w' R S ∧ Below w.heap.size w w'
  | some (V, k) => ∃ M, e = .returned (.tuple #[.pointer (some ⟨M, 0, none⟩), .bool (decide (k = X.length)), .bool true]) ∧ w.heap.size ≤ M ∧ Ma (fun i => F i ∨ (w.heap.size ≤ i ∧ i < w'.heap.size)) w' M R n (SP (X.take k)).1.length V false S ∧ Below w.heap.size w w'
theorem resume_none {F : Nat → Prop} {w : World} {R n : Nat} {S : St} {E : Nat} {X : List Int} (h : Held F w R S) (h1 : 1 ≤ n) (h2 : n < 100) (e : readS S (mnm n) = (E, X)) (hE : E ≠ 0) :
    Calls Tryz.prog 43 #[.pointer (some ⟨R, 0, none⟩), .int .i64 n] w fun e w' => e = .returned (.tuple #[.pointer none, .bool false, .bool false]) ∧ Held F w' R S ∧ Below w.heap.size w w' := by
  have NM := hide (name_man n h1 h2 w)
  have RD := hide (read_h (mnm n) e h (by have := (mnm_okAll n h2).2; omega))
  have hne : ¬ ((E : Int) = 0) := by omega
  unfold kMan at NM
  generalize mnm n = Z at *
  clear h e
  go_enter Tryz.func43, Tryz.ntmps43
  go_wp2_with fail
  refine NM.out.mono ?_
  rintro e w1 ⟨rfl, rfl⟩
  go_wp2_with fail
  refine RD.out.mono ?_
  rintro e w2 ⟨ao, cap, rfl, -, h2, hb⟩
  have HE := hide (And.intro h2 hb)
  generalize X.length = N at *
  clear RD NM h2 hb
  go_wp2
  refine bodyPost_ret (by simp [results, Tryz.results43, go_sem]) rfl ⟨rfl, HE.out⟩
set_option maxHeartbeats 2000000 in
theorem resume_any {F : Nat → Prop} {w : World} {R n : Nat} {S : St} {X : List Int} (h : Held F w R S) (h1 : 1 ≤ n) (h2 : n < 100) (e : readS S (mnm n) = (0, X)) :
    Calls Tryz.prog 43 #[.pointer (some ⟨R, 0, none⟩), .int .i64 n] w (ReA F R n S X w) := by
  have HBY := hide (held_bytes h e)
  have HNO := hide (show ∀ W, rpE X = none → Held F W R S → Below w.heap.size w W → ReA F R n S X w (.returned (.tuple #[.pointer none, .bool false, .bool false])) W from fun W q h1 h2 => by unfold ReA; rw [q]; exact ⟨rfl, h1, h2⟩)
  have HYES := hide (show ∀ W V k M, rpE X = some (V, k) → w.heap.size ≤ M → Ma (fun i => F i ∨ (w.heap.size ≤ i ∧ i < W.heap.size)) W M R n (SP (X.take k)).1.length V false S → Below w.heap.size w W → ReA F R n S X w (.returned (.tuple #[.pointer (some ⟨M, 0, none⟩), .bool (decide (k = X.length)), .bool true])) W from fun W V k M q h0 h1 h2 => by unfold ReA; rw [q]; exact ⟨M, rfl, h0, h1, h2⟩)
  generalize hQ : ReA F R n S X w = Q at *
  clear hQ
  have NM := hide (name_man n h1 h2 w)
  have RD := hide (read_h (mnm n) e h (by have := (mnm_okAll n h2).2; omega))
  unfold kMan at NM
  generalize mnm n = Z at *
  have HH := hide h
  clear h e
  obtain ⟨hxr, hxl⟩ := HBY.out
  have HRG := hide (range_of hxr)
  clear hxr
  go_enter Tryz.func43, Tryz.ntmps43
  go_wp2_with fail
  refine NM.out.mono ?_
  rintro e w1 ⟨rfl, rfl⟩
  clear NM
  go_wp2_with fail
  refine RD.out.mono ?_
  rintro e w2 ⟨ao, cap, rfl, ho, hh2, hb2⟩
  obtain ⟨ao', cap', hv, hcm, hB, hbk⟩ := own_bs ho HRG.out
  injection hv with e1 _ e3
  subst e1 e3
  have RP := hide (ereplay_new ao X.length cap X w2 (by omega) hB)
  have HB := hide hB
  have HB2 := hide hb2
  have HBK := hide hbk
  obtain ⟨NX, hNX⟩ : ∃ NX, X.length = NX := ⟨_, rfl⟩
  have HNX := hide hNX
  rw [hNX] at RP hxl ⊢
  clear RD ho hh2 hb2 hB hbk hNX
  unfold RpB at RP
  obtain ⟨r, hr⟩ : ∃ r, rpE X = r := ⟨_, rfl⟩
  rw [hr] at RP
  cases r with
  | none =>
    simp only at RP
    have HR := hide hr
    unfold vwV zV at RP
    clear hr HYES
    go_wp2_with fail
    refine RP.out.mono ?_
    rintro e w3 ⟨rfl, hb3⟩
    have hA := hb3.alloc hb3.size (Obj.cells #[.int .i64 0, .slice none 0 0, .int .u64 0, .int .u64 0, .int .u64 0, .int .u64 0] 31)
    have HE := hide (fun W (hW : Below w2.heap.size w2 W) => HNO.out W HR.out (HH.out.same (bmore HB2.out hW)).1 (bmore HB2.out hW))
    have HA := hide hA
    clear RP hb3 hA HNO
    go_wp2
    first | exact HE.out _ HA.out | (refine bodyPost_ret (by simp [results, Tryz.results43, go_sem]) rfl (HE.out _ HA.out))
  | some x =>
    obtain ⟨V, k⟩ := x
    simp only at RP
    obtain ⟨hk1, hk2, hvk⟩ := rpE_le hr
    have hkN : k ≤ NX := by rw [hk1, ← HNX.out]; exact SP_upto _ X (Nat.le_refl _)
    have HR := hide hr
    have hlen40 := (good_once (.inr hvk)).2
    have hX0 : 0 < NX := by
      rw [← HNX.out]
      have := SP_len X
      omega
    clear hr HNO hk1 hk2
    unfold vwV at RP
    go_wp2_with fail
    refine RP.out.mono ?_
    rintro e w3 ⟨⟨a, c, rfl, hfs, hc, hnew⟩, hb3⟩
    have hA := hb3.alloc hb3.size (Obj.cells #[.int .i64 V.lg, .slice a V.f.length c, .int .u64 V.fl, .int .u64 V.ct, .int .u64 V.at9, .int .u64 V.ls] 31)
    have hb2s := HB2.out.size
    have hb3s := hb3.size
    obtain ⟨g, rfl, hg1, hg2⟩ : ∃ g, ao = some ⟨g, 0, none⟩ ∧ w1.heap.size ≤ g ∧ g < w2.heap.size := by
      obtain ⟨b, off, e, _⟩ := HB.out.2.2.2 (by rw [HNX.out]; exact hX0)
      subst e
      obtain ⟨q1, q2, q3⟩ := HBK.out b off rfl
      subst q3
      exact ⟨b, rfl, q1, q2⟩
    have hbs4 := (HB.out.below hb3 (Nat.le_refl _))
    have hcap := HB.out.2.1.1
    rw [HNX.out] at hbs4 hcap
    have A3 := hide ((Below.refl _ w3).alloc (Nat.le_refl _) (Obj.cells #[.int .i64 V.lg, .slice a V.f.length c, .int .u64 V.fl, .int .u64 V.ct, .int .u64 V.at9, .int .u64 V.ls] 31))
    have hk9 : k ≤ 9223372036854775807 := by omega
    obtain ⟨CN, hCN⟩ : ∃ CN, (SP (X.take k)).1.length = CN := ⟨_, rfl⟩
    have SL := hide (fsplit_any (some ⟨g, 0, none⟩) k cap (X.take k) _ (by omega) ((hbs4.below A3.out (Nat.le_refl _)).takeAt k hkN) CN hCN)
    have kv := hide (ek_new w3 #[.int .i64 V.lg, .slice a V.f.length c, .int .u64 V.fl, .int .u64 V.ct, .int .u64 V.at9, .int .u64 V.ls] 31)
    have hcn : CN ≤ 250000 := by rw [← hCN]; have := SP_len (X.take k); rw [List.length_take] at this; omega
    have hsz3 : (w3.alloc (Obj.cells #[.int .i64 V.lg, .slice a V.f.length c, .int .u64 V.fl, .int .u64 V.ct, .int .u64 V.at9, .int .u64 V.ls] 31)).heap.size = w3.heap.size + 1 := by simp
    have HYE := hide (fun W M hM hMa hb => HYES.out W V k M HR.out hM (by rw [hCN]; exact hMa) hb)
    rw [HNX.out] at HYE
    have HFS := hide hfs
    have HNW := hide hnew
    have HB3 := hide hb3
    clear RP HB HBK hbs4 hfs hnew hb3 hA hCN HR HYES
    go_wp2_with fail
    refine SL.out.mono ?_
    rintro e w4 ⟨Kb, Gb, rfl, -, -, hb4⟩
    rw [hsz3] at hb4
    have kv4 := kv.out.below hb4 (by omega)
    have c0 : w4.cell? ⟨w3.heap.size, 0, none⟩ = some (.int .i64 V.lg) := kv4.cell rfl
    have c1 : w4.cell? ⟨w3.heap.size, 1, none⟩ = some (.slice a V.f.length c) := kv4.cell rfl
    have c2 : w4.cell? ⟨w3.heap.size, 2, none⟩ = some (.int .u64 V.fl) := kv4.cell rfl
    have c3 : w4.cell? ⟨w3.heap.size, 3, none⟩ = some (.int .u64 V.ct) := kv4.cell rfl
    have c4 : w4.cell? ⟨w3.heap.size, 4, none⟩ = some (.int .u64 V.at9) := kv4.cell rfl
    have c5 : w4.cell? ⟨w3.heap.size, 5, none⟩ = some (.int .u64 V.ls) := kv4.cell rfl
    have hb4s := hb4.size
    have b24 : Below w2.heap.size w2 w4 := HB3.out.trans ((A3.out.trans (hb4.mono (by omega))).mono HB3.out.size)
    have b4 := bmore HB2.out b24
    have hfs4 := (HFS.out.below (A3.out.trans (hb4.mono (by omega))) (Nat.le_refl _))
    have b5 := b4.alloc b4.size (Obj.cells (manV R n CN a c V false) 92)
    have b45 := (Below.refl _ w4).alloc (Nat.le_refl _) (Obj.cells (manV R n CN a c V false) 92)
    have hs5 : (w4.alloc (Obj.cells (manV R n CN a c V false) 92)).heap.size = w4.heap.size + 1 := by simp
    have hb2s2 := HB2.out.size
    have HE := hide (HYE.out (w4.alloc (Obj.cells (manV R n CN a c V false) 92)) w4.heap.size (by omega) ⟨⟨a, c, ek_new w4 _ _, hfs4.below b45 (Nat.le_refl _), hc, fun x e => ⟨.inr ⟨by have := (HNW.out x e).1; omega, by have := (HNW.out x e).2; omega⟩, by have := (HNW.out x e).2; omega⟩⟩, (HH.out.wide b5), .inr ⟨by omega, by omega⟩⟩ b5)
    unfold manV at HE
    clear kv kv4 hb4 b24 b4 hfs4 b5 b45 hs5 SL A3 HFS HNW HB3 HYE HH HB2
    go_wp2
    have hkq : ((k : Int) == (NX : Int)) = decide (k = NX) := by
      by_cases hq : k = NX
      · subst hq; simp
      · have h1 : ¬ ((k : Int) = (NX : Int)) := by omega
        simp [hq, h1]
    refine bodyPost_ret (by simp [results, Tryz.results43, go_sem, hkq]) rfl HE.out

end Go.Proofs.YtcahlmneancapaaGreatDoor.Clep

/- The region of v, ok := edit.Apply(m.view, e): what each slot holds once its operation has come up. No conditions. -/
namespace Go.Proofs.YtcahlmneancapaaGreatDoor.Clep
open Go.RowKit
set_option linter.unusedVariables false
set_option maxRecDepth 10000

/-- What each slot of the region holds. -/
def QTh (H : Nat) (VC : Value) (M : Nat) (YV : Value) (N : Nat) (X : Vw) (o : Bool) : (Nat → Bool) → Nat → Value → World → Prop := fun L i v W => match i with
  | 0 => v = .pointer (some ⟨M, 0, none⟩)
  | 1 => v = .pointer (some ⟨M, 0, none⟩)
  | 2 => v = .pointer (some ⟨M, 3, none⟩)
  | 3 => v = VC
  | 4 => v = YV
  | 5 => ∃ a c, v = .tuple #[.agg #[.int .i64 X.lg, .slice a N c, .int .u64 X.fl, .int .u64 X.ct, .int .u64 X.at9, .int .u64 X.ls], .bool o] ∧ c ≤ 9223372036854775807 ∧ (L 10 = false → OwnF W H (.slice a N c) X.f)
  | 6 => ∃ a c, v = .tuple #[.agg #[.int .i64 X.lg, .slice a N c, .int .u64 X.fl, .int .u64 X.ct, .int .u64 X.at9, .int .u64 X.ls], .bool o] ∧ c ≤ 9223372036854775807 ∧ (L 10 = false → OwnF W H (.slice a N c) X.f)
  | 7 => ∃ a c, v = .agg #[.int .i64 X.lg, .slice a N c, .int .u64 X.fl, .int .u64 X.ct, .int .u64 X.at9, .int .u64 X.ls] ∧ c ≤ 9223372036854775807 ∧ (L 10 = false → OwnF W H (.slice a N c) X.f)
  | 8 => v = .bool o
  | 9 => ∃ p, v = .pointer (some ⟨p, 0, none⟩) ∧ H ≤ p ∧ (L 10 = false → Ek W p #[.int .i64 0, .slice none 0 0, .int .u64 0, .int .u64 0, .int .u64 0, .int .u64 0] 31) ∧ (L 10 = true → ∃ a c, Ek W p #[.int .i64 X.lg, .slice a N c, .int .u64 X.fl, .int .u64 X.ct, .int .u64 X.at9, .int .u64 X.ls] 31 ∧ c ≤ 9223372036854775807 ∧ OwnF W H (.slice a N c) X.f)
  | 11 => v = .bool o
  | _ => True
theorem qth_keep {H : Nat} {VC : Value} {M : Nat} {YV : Value} {N : Nat} {X : Vw} {o : Bool} {L L' : Nat → Bool} {W W' : World} (hL : L' 10 = L 10) (hb : Below W.heap.size W W') : ∀ j u, QTh H VC M YV N X o L j u W → QTh H VC M YV N X o L' j u W' := by
  intro j u h
  match j, h with
  | 0, h => exact h
  | 1, h => exact h
  | 2, h => exact h
  | 3, h => exact h
  | 4, h => exact h
  | 5, ⟨a, c, h1, h2, h3⟩ => exact ⟨a, c, h1, h2, fun e => ownF_keep (h3 (hL ▸ e)) hb⟩
  | 6, ⟨a, c, h1, h2, h3⟩ => exact ⟨a, c, h1, h2, fun e => ownF_keep (h3 (hL ▸ e)) hb⟩
  | 7, ⟨a, c, h1, h2, h3⟩ => exact ⟨a, c, h1, h2, fun e => ownF_keep (h3 (hL ▸ e)) hb⟩
  | 8, h => exact h
  | 9, ⟨p, h1, h2, h3, h4⟩ => exact ⟨p, h1, h2, fun e => (h3 (hL ▸ e)).below hb (h3 (hL ▸ e)).lt, fun e => by
      obtain ⟨a, c, h5, h6, h7⟩ := h4 (hL ▸ e)
      exact ⟨a, c, h5.below hb h5.lt, h6, ownF_keep h7 hb⟩⟩
  | 10, h => trivial
  | 11, h => exact h
  | k + 12, h => trivial
theorem qth_store {H : Nat} {VC : Value} {M : Nat} {YV : Value} {N : Nat} {X : Vw} {o : Bool} {L L' : Nat → Bool} {W W' : World} (hL : L' 10 = true) : ∀ j u, (j = 9 → QTh H VC M YV N X o L' 9 u W') → QTh H VC M YV N X o L j u W → QTh H VC M YV N X o L' j u W' := by
  intro j u h9 h
  match j, h with
  | 0, h => exact h
  | 1, h => exact h
  | 2, h => exact h
  | 3, h => exact h
  | 4, h => exact h
  | 5, ⟨a, c, h1, h2, h3⟩ => exact ⟨a, c, h1, h2, fun e => by rw [hL] at e; cases e⟩
  | 6, ⟨a, c, h1, h2, h3⟩ => exact ⟨a, c, h1, h2, fun e => by rw [hL] at e; cases e⟩
  | 7, ⟨a, c, h1, h2, h3⟩ => exact ⟨a, c, h1, h2, fun e => by rw [hL] at e; cases e⟩
  | 8, h => exact h
  | 9, h => exact h9 rfl
  | 10, h => trivial
  | 11, h => exact h
  | k + 12, h => trivial
/-- What the memory holds meanwhile. -/
def QG (wS : World) : (Nat → Bool) → World → Prop := fun L W => Below wS.heap.size wS W ∧ (L 10 = true → ∀ j, j < 10 → j ≠ 8 → L j = true)
theorem qg_upd {wS : World} {L : Nat → Bool} {W : World} (i : Nat) (hi : i ≠ 10) (h : QG wS L W) : QG wS (upd L i) W := ⟨h.1, fun e j hj h8 => upd_more (h.2 (by unfold upd at e; rwa [if_neg (Ne.symm hi)] at e) j hj h8)⟩
theorem qg_below {wS : World} {L : Nat → Bool} {W W' : World} (h : QG wS L W) (hb : Below W.heap.size W W') : QG wS L W' := ⟨h.1.trans (hb.mono h.1.size), h.2⟩
theorem qg10 {wS : World} {L : Nat → Bool} {W : World} (h : QG wS L W) {i : Nat} (hi : i < 10) (h8 : i ≠ 8) (hL : L i = false) : L 10 = false := by
  cases e : L 10 with
  | false => rfl
  | true => rw [h.2 e i hi h8] at hL; cases hL
theorem qwaits_but {ops : Array Oper} {i n k : Nat} (h : (List.range n).all (fun j => j == k || waits ops i j) = true) : ∀ j, j < n → j ≠ k → waits ops i j = true := fun j hj hk => by
  have := List.all_eq_true.1 h j (List.mem_range.2 hj)
  simpa [hk] using this
theorem qupd10 {L : Nat → Bool} {i : Nat} (hi : 10 ≠ i) : upd L i 10 = L 10 := by unfold upd; rw [if_neg hi]

end Go.Proofs.YtcahlmneancapaaGreatDoor.Clep

/- What Save of a Manifest does when called (a walk over the translated program). Disks of up to 60 files of a manifest, numbers from 1 to 99, Edits of up to 60 numbers and files. -/
namespace Go.Proofs.YtcahlmneancapaaGreatDoor.Clep
open Go.RowKit Go.Maps Go.Sort
set_option linter.unusedVariables false
set_option maxRecDepth 10000

theorem vok_wf16 {V : Vw} (h : vok V = true) : ∀ x ∈ V.f, x.wf := fun x hx => by
  have h1 := List.all_eq_true.1 (vok_parts2 h).2.1 x hx
  obtain ⟨L, N⟩ := x
  rw [fi_ok] at h1
  unfold okN at h1
  rw [Bool.and_eq_true] at h1
  have a := of_decide_eq_true h1.1
  have b := of_decide_eq_true h1.2
  unfold Fi.wf
  simp only
  omega
/-- The View is set, and the count. -/
def setV (W : World) (M : Nat) (a : Option Addr) (fc : Nat) (V : Vw) : World := (((((W.setCell ⟨M, 3, none⟩ (.int .i64 V.lg)).setCell ⟨M, 4, none⟩ (.slice a V.f.length fc)).setCell ⟨M, 5, none⟩ (.int .u64 V.fl)).setCell ⟨M, 6, none⟩ (.int .u64 V.ct)).setCell ⟨M, 7, none⟩ (.int .u64 V.at9)).setCell ⟨M, 8, none⟩ (.int .u64 V.ls)
theorem ma_put {F : Nat → Prop} {w : World} {M R n c : Nat} {V U : Vw} {br : Bool} {S : St} (h : Ma F w M R n c V br S) (c' : Nat) (cv : Int) (hcv : cv = (c' : Int)) (a : Option Addr) (fc : Nat) (hf : Fs w a U.f.length fc U.f) (hc : fc ≤ 9223372036854775807) (hx : ∀ x, a = some x → F x.block ∧ x.block ≠ M) :
    Ma F ((setV w M a fc U).setCell ⟨M, 2, none⟩ (.int .i64 cv)) M R n c' U br S ∧ Ch (fun i => i = M) w ((setV w M a fc U).setCell ⟨M, 2, none⟩ (.int .i64 cv)) := by
  subst hcv
  obtain ⟨a0, fc0, h1, h2, h3, h4⟩ := h.blk
  have ch : Ch (fun i => i = M) w ((setV w M a fc U).setCell ⟨M, 2, none⟩ (.int .i64 c')) := by
    unfold setV
    exact ((((((Ch.set (P := fun i => i = M) w ⟨M, 3, none⟩ _ rfl).trans (Ch.set _ ⟨M, 4, none⟩ _ rfl)).trans (Ch.set _ ⟨M, 5, none⟩ _ rfl)).trans (Ch.set _ ⟨M, 6, none⟩ _ rfl)).trans (Ch.set _ ⟨M, 7, none⟩ _ rfl)).trans (Ch.set _ ⟨M, 8, none⟩ _ rfl)).trans (Ch.set _ ⟨M, 2, none⟩ _ rfl)
  refine ⟨⟨⟨a, fc, ?_, hf.ch ch (fun x hx' => (hx x hx').2), hc, hx⟩, (h.held.ch (ch.mono (fun i _ e => by subst e; exact h.own))).less (fun i hi => .inl hi), h.own⟩, ch⟩
  have hk := ((((((h1.set 3 (.int .i64 U.lg)).set 4 (.slice a U.f.length fc)).set 5 (.int .u64 U.fl)).set 6 (.int .u64 U.ct)).set 7 (.int .u64 U.at9)).set 8 (.int .u64 U.ls)).set 2 (.int .i64 (c' : Int))
  have e : (((((((manV R n c a0 fc0 V br).setIfInBounds 3 (.int .i64 U.lg)).setIfInBounds 4 (.slice a U.f.length fc)).setIfInBounds 5 (.int .u64 U.fl)).setIfInBounds 6 (.int .u64 U.ct)).setIfInBounds 7 (.int .u64 U.at9)).setIfInBounds 8 (.int .u64 U.ls)).setIfInBounds 2 (.int .i64 (c' : Int)) = manV R n c' a fc U br := by
    kernel_rfl
  rw [e] at hk
  exact hk
theorem save_f0 {S S1 : St} {s : ByteArray} {zs : List Int} {E1 : Nat} (e1 : appendS S s zs = (E1, S1)) (n1 : E1 ≠ 0) : saveS S s zs = (E1, 0, S1) := by
  unfold saveS; rw [e1]; simp [n1]
theorem save_f1 {S S1 S2 : St} {s : ByteArray} {zs : List Int} {E2 : Nat} (e1 : appendS S s zs = (0, S1)) (e2 : syncS S1 s = (E2, S2)) (n2 : E2 ≠ 0) : saveS S s zs = (E2, 1, S2) := by
  unfold saveS; rw [e1]; simp [e2, n2]
theorem save_f2 {S S1 S2 : St} {s : ByteArray} {zs : List Int} (e1 : appendS S s zs = (0, S1)) (e2 : syncS S1 s = (0, S2)) : saveS S s zs = (0, 2, S2) := by
  unfold saveS; rw [e1]; simp [e2]
theorem msave_broken {F : Nat → Prop} {w : World} {M R n c : Nat} {V : Vw} {S : St} (h : Ma F w M R n c V true S) (da aa : Option Addr) (dn dc an ac : Nat) (E : Ed) :
    Calls Tryz.prog 11 #[.pointer (some ⟨M, 0, none⟩), edV da dn dc aa an ac E] w fun e w' => e = .returned (.int .i64 14) ∧ Below w.heap.size w w' := by
  obtain ⟨a, fc, hb, _⟩ := h.blk
  have hA := (Below.refl _ w).alloc (Nat.le_refl _) (Obj.cells #[.slice da dn dc, .slice aa an ac, .int .i64 E.lg, .int .u64 E.fl, .int .u64 E.ct, .int .u64 E.at9, .int .u64 E.ls] 34)
  have c1 := (hb.keep hA).cell (o := 12) rfl
  have HA := hide hA
  clear h hb hA
  unfold edV
  go_enter Tryz.func11, Tryz.ntmps11
  go_wp2
  go_ret
  exact ⟨rfl, HA.out⟩
/-- What Save does: refuses what may not be; else lays it behind. -/
def SvA (F : Nat → Prop) (M R n c : Nat) (V : Vw) (E : Ed) (S : St) (w : World) (e : Ending) (w' : World) : Prop :=
  (emay E ≠ 0 ∨ appl V E = none → e = .returned (.int .i64 1) ∧ Below w.heap.size w w') ∧
  (∀ U, emay E = 0 → appl V E = some U → ∃ E1 ph S', saveS S (mnm n) (fr 6 (ebd E)) = (E1, ph, S') ∧ e = .returned (.int .i64 (E1 : Nat)) ∧ Same (fun i => F i ∧ i ≠ M) w w' ∧
    ∃ F' : Nat → Prop, (∀ i, F i → F' i) ∧ Ma F' w' M R n (if ph = 0 then c else c + 1) (if ph = 0 then V else U) (decide (ph = 1)) S')
set_option maxHeartbeats 8000000 in
theorem msave_any {F : Nat → Prop} {w : World} {M R n c : Nat} {V : Vw} {S : St} (h : Ma F w M R n c V false S) (da aa : Option Addr) (dn dc an ac : Nat) (E : Ed) (hzd : Zs w da dn dc E.d) (hfa : Fs w aa an ac E.a) (hdn : dn ≤ 60) (han : an ≤ 60) (hu : 0 ≤ E.fl ∧ 0 ≤ E.ct ∧ 0 ≤ E.at9 ∧ 0 ≤ E.ls)
    (hV : once V.f = true ∧ V.f.length ≤ 40) (h1 : 1 ≤ n) (h2 : n < 100) (hc : c ≤ 1000000) (hm : S.calls < 274877906944) :
    Calls Tryz.prog 11 #[.pointer (some ⟨M, 0, none⟩), edV da dn dc aa an ac E] w (SvA F M R n c V E S w) := by
  have HR1 := hide (show ∀ w', emay E ≠ 0 ∨ appl V E = none → Below w.heap.size w w' → SvA F M R n c V E S w (.returned (.int .i64 1)) w' from fun w' h1 h2 => ⟨(fun _ => ⟨rfl, h2⟩), (fun U h3 h4 => by
    rcases h1 with h1 | h1
    · exact absurd h3 h1
    · rw [h1] at h4; cases h4)⟩)
  have HR2 := hide (show ∀ w' U E1 ph S', emay E = 0 → appl V E = some U → saveS S (mnm n) (fr 6 (ebd E)) = (E1, ph, S') → Same (fun i => F i ∧ i ≠ M) w w' → (∃ F' : Nat → Prop, (∀ i, F i → F' i) ∧ Ma F' w' M R n (if ph = 0 then c else c + 1) (if ph = 0 then V else U) (decide (ph = 1)) S') → SvA F M R n c V E S w (.returned (.int .i64 (E1 : Nat))) w' from
    fun w' U E1 ph S' q1 q2 q3 q4 q5 => ⟨(fun q => by
      rcases q with q | q
      · exact absurd q1 q
      · rw [q] at q2; cases q2), (fun U' r1 r2 => by
      rw [q2] at r2
      injection r2 with r2
      subst r2
      exact ⟨E1, ph, S', q3, rfl, q4, q5⟩)⟩)
  generalize hQ : SvA F M R n c V E S w = Q at *
  clear hQ
  obtain ⟨fa, fc, hb, hfs, hcap, hx⟩ := h.blk
  have hA := (Below.refl _ w).alloc (Nat.le_refl _) (Obj.cells #[.slice da dn dc, .slice aa an ac, .int .i64 E.lg, .int .u64 E.fl, .int .u64 E.ct, .int .u64 E.at9, .int .u64 E.ls] 34)
  have ke := ek_new w #[.slice da dn dc, .slice aa an ac, .int .i64 E.lg, .int .u64 E.fl, .int .u64 E.ct, .int .u64 E.at9, .int .u64 E.ls] 34
  have HA := hide hA
  have KE := hide ke
  have cb := (hb.keep hA).cell (o := 12) rfl
  have PU := hide (eput_any none 0 0 [] da dn dc aa an ac E _ (bs_nil _) (by decide) (hzd.below hA (Nat.le_refl _)) (hfa.below hA (Nat.le_refl _)) (by omega) (by omega) hu)
  have HM := hide h
  have HB := hide hb
  have HFS := hide hfs
  have HX := hide hx
  have HZD := hide hzd
  have HFA := hide hfa
  have HU := hide hu
  clear h hb hA ke hfs hx hzd hfa hu
  unfold edV at PU ⊢
  by_cases hmay : emay E = 0
  case neg =>
    unfold PutR at PU
    simp only [if_neg hmay] at PU
    have HN := hide hmay
    clear hmay
    go_enter Tryz.func11, Tryz.ntmps11
    go_wp2_with fail
    refine PU.out.mono ?_
    rintro e w2 ⟨rfl, hb2⟩
    have HE := hide (HR1.out w2 (.inl HN.out) (HA.out.trans (hb2.mono HA.out.size)))
    clear PU hb2 HR1 HR2
    go_wp2
    first | exact HE.out | (go_ret; exact HE.out)
  unfold PutR at PU
  simp only [if_pos hmay, List.nil_append] at PU
  have HMAY := hide hmay
  obtain ⟨hrg, hlen⟩ : ByteL (fr 6 (ebd E)) ∧ (fr 6 (ebd E)).length ≤ 1312 := by
    have hE : ∀ D ∈ [E], Eg D := fun D hD => by rw [List.mem_singleton.1 hD]; exact ⟨hmay, HU.out⟩
    have h1 := el_range [E] hE
    have h2 := el_len [E] hE
    rw [el_one] at h1 h2
    exact ⟨h1, h2⟩
  have HRG := hide hrg
  clear hmay hrg
  go_enter Tryz.func11, Tryz.ntmps11
  go_wp2_with fail
  refine PU.out.mono ?_
  rintro e w2 ⟨⟨v, rfl, ho⟩, hb2⟩
  obtain ⟨ab, cb2, rfl, -, hB, hbk⟩ := own_bs ho (range_of HRG.out)
  have hsz0 : (w.alloc (Obj.cells #[.slice da dn dc, .slice aa an ac, .int .i64 E.lg, .int .u64 E.fl, .int .u64 E.ct, .int .u64 E.at9, .int .u64 E.ls] 34)).heap.size = w.heap.size + 1 := by simp
  have hb2s := hb2.size
  rw [hsz0] at hb2s
  have HB2 := hide (HA.out.trans (hb2.mono HA.out.size))
  have KE2 := hide (KE.out.keep hb2)
  have HBs := hide hB
  have HBK := hide (show ∀ b off, ab = some ⟨b, off, none⟩ → w.heap.size ≤ b ∧ b < w2.heap.size from fun b off e => ⟨by have := (hbk b off e).1; omega, (hbk b off e).2.1⟩)
  clear PU ho hB hbk hb2 cb HA KE hsz0
  obtain ⟨X, hX⟩ : ∃ X, apv (appl V E) = X := ⟨_, rfl⟩
  obtain ⟨o, ho⟩ : ∃ o, (appl V E).isSome = o := ⟨_, rfl⟩
  obtain ⟨N, hN⟩ : ∃ n, X.f.length = n := ⟨_, rfl⟩
  obtain ⟨NV, hNV⟩ : ∃ n, V.f.length = n := ⟨_, rfl⟩
  have HXO := hide (show (o = true → appl V E = some X) ∧ (o = false → appl V E = none) from by
    rw [← ho, ← hX]
    cases hr : appl V E with
    | none => exact ⟨(fun e => by cases e), fun _ => rfl⟩
    | some U => exact ⟨fun _ => rfl, (fun e => by cases e)⟩)
  have HN := hide hN
  have HVW := hide (show ∀ W, Below w2.heap.size w2 W → (W.cell? ⟨M, 3, none⟩ = some (.int .i64 V.lg) ∧ W.cell? ⟨M, 4, none⟩ = some (.slice fa NV fc) ∧ W.cell? ⟨M, 5, none⟩ = some (.int .u64 V.fl) ∧ W.cell? ⟨M, 6, none⟩ = some (.int .u64 V.ct) ∧ W.cell? ⟨M, 7, none⟩ = some (.int .u64 V.at9) ∧ W.cell? ⟨M, 8, none⟩ = some (.int .u64 V.ls)) from fun W hW => by
    have := (HB.out.keep HB2.out).keep hW
    rw [← hNV]
    exact ⟨this.cell rfl, this.cell rfl, this.cell rfl, this.cell rfl, this.cell rfl, this.cell rfl⟩)
  have HYC := hide (show ∀ W, Below w2.heap.size w2 W → (W.cell? ⟨w.heap.size, 0, none⟩ = some (.slice da dn dc) ∧ W.cell? ⟨w.heap.size, 1, none⟩ = some (.slice aa an ac) ∧ W.cell? ⟨w.heap.size, 2, none⟩ = some (.int .i64 E.lg) ∧ W.cell? ⟨w.heap.size, 3, none⟩ = some (.int .u64 E.fl) ∧ W.cell? ⟨w.heap.size, 4, none⟩ = some (.int .u64 E.ct) ∧ W.cell? ⟨w.heap.size, 5, none⟩ = some (.int .u64 E.at9) ∧ W.cell? ⟨w.heap.size, 6, none⟩ = some (.int .u64 E.ls)) from fun W hW => by
    have := KE2.out.keep hW
    exact ⟨this.cell rfl, this.cell rfl, this.cell rfl, this.cell rfl, this.cell rfl, this.cell rfl, this.cell rfl⟩)
  have CA := hide (show ∀ W, Below w2.heap.size w2 W → Calls Tryz.prog 39 #[.agg #[.int .i64 V.lg, .slice fa NV fc, .int .u64 V.fl, .int .u64 V.ct, .int .u64 V.at9, .int .u64 V.ls], .agg #[.slice da dn dc, .slice aa an ac, .int .i64 E.lg, .int .u64 E.fl, .int .u64 E.ct, .int .u64 E.at9, .int .u64 E.ls]] W fun e w' => ∃ a c, e = .returned (.tuple #[.agg #[.int .i64 X.lg, .slice a N c, .int .u64 X.fl, .int .u64 X.ct, .int .u64 X.at9, .int .u64 X.ls], .bool o]) ∧ c ≤ 9223372036854775807 ∧ OwnF w' W.heap.size (.slice a N c) X.f ∧ Below W.heap.size W w' from fun W hW => by
    have hW2 : Below w.heap.size w W := HB2.out.trans (hW.mono HB2.out.size)
    have hfv := HFS.out.below hW2 (Nat.le_refl _)
    rw [hNV] at hfv
    refine (apply_any fa da aa NV fc dn dc an ac V E W hfv (HZD.out.below hW2 (Nat.le_refl _)) (HFA.out.below hW2 (Nat.le_refl _)) (by omega) (by omega) (by omega) hV.1).mono fun e w' h => ?_
    obtain ⟨a, c, h1, h2, h3, h4, h5⟩ := apr_any h
    rw [hX, ho, hN] at h1
    rw [hX, hN] at h3
    exact ⟨a, c, h1, h2, h3, h5⟩)
  have HWF := hide (show o = true → ∀ x ∈ X.f, x.wf from fun e => by
    have := appl_vok (HXO.out.1 e)
    exact vok_wf16 this)
  have HXN := hide (show o = true → N ≤ 40 from fun e => by
    have := (good_once (.inr (appl_vok (HXO.out.1 e)))).2
    omega)
  obtain ⟨LB, hLB⟩ : ∃ n, (fr 6 (ebd E)).length = n := ⟨_, rfl⟩
  rw [hLB] at HBs hlen
  have HLB := hide hLB
  rw [hLB]
  clear hX ho hN hNV hLB HFS HZD HFA HB
  go_upto_region 6 with fail
  go_cut [7, 8] from 11 to 66 (fun s7 s8 wx => s8 = .bool o ∧ Hid (∃ p a c, s7 = .pointer (some ⟨p, 0, none⟩) ∧ w2.heap.size ≤ p ∧ Ek wx p #[.int .i64 X.lg, .slice a N c, .int .u64 X.fl, .int .u64 X.ct, .int .u64 X.at9, .int .u64 X.ls] 31 ∧ c ≤ 9223372036854775807 ∧ OwnF wx w2.heap.size (.slice a N c) X.f ∧ Below w2.heap.size w2 wx))
  case first =>
    clear HR1 HR2 HM HX HBs HBK HXO HN HWF HXN HLB HRG HMAY
    refine region_si (QTh w2.heap.size (.agg #[.int .i64 V.lg, .slice fa NV fc, .int .u64 V.fl, .int .u64 V.ct, .int .u64 V.at9, .int .u64 V.ls]) M (.agg #[.slice da dn dc, .slice aa an ac, .int .i64 E.lg, .int .u64 E.fl, .int .u64 E.ct, .int .u64 E.at9, .int .u64 E.ls]) N X o) (QG w2) (by kernel_rfl) (by kernel_rfl) (by kernel_rfl) ?start ?step ?fin
    case start => exact ⟨(Below.refl _ w2).drew, fun e => (by cases e)⟩
    case step =>
      intro L A W i_ hI hi hLi hw
      have hi2 : i_ < 12 := hi
      rcases (show i_ = 0 ∨ i_ = 1 ∨ i_ = 2 ∨ i_ = 3 ∨ i_ = 4 ∨ i_ = 5 ∨ i_ = 6 ∨ i_ = 7 ∨ i_ = 8 ∨ i_ = 9 ∨ i_ = 10 ∨ i_ = 11 by omega) with rfl | rfl | rfl | rfl | rfl | rfl | rfl | rfl | rfl | rfl | rfl | rfl
      · have e0 := hI.kept 0 _ (by decide +kernel) rfl
        refine hI.pure (by kernel_rfl) (by decide +kernel) (i := 0) (d := 23) rfl rfl rfl (v := .pointer (some ⟨M, 0, none⟩)) (rfl) (fun j u _ _ h => qth_keep (qupd10 (by decide)) (Below.refl _ _) j u h) (qg_upd 0 (by decide) hI.g) ?_
        intro K hKK
        go_simp
        exact hKK
      · obtain ⟨_, e0, rfl⟩ := hI.val 0 23 (by decide +kernel) (hw 0 (by kernel_rfl)) (by kernel_rfl)
        refine hI.pure (by kernel_rfl) (by decide +kernel) (i := 1) (d := 24) rfl rfl rfl (v := .pointer (some ⟨M, 0, none⟩)) (rfl) (fun j u _ _ h => qth_keep (qupd10 (by decide)) (Below.refl _ _) j u h) (qg_upd 1 (by decide) hI.g) ?_
        intro K hKK
        go_simp
        exact hKK
      · obtain ⟨_, e0, rfl⟩ := hI.val 1 24 (by decide +kernel) (hw 1 (by kernel_rfl)) (by kernel_rfl)
        refine hI.pure (by kernel_rfl) (by decide +kernel) (i := 2) (d := 25) rfl rfl rfl (v := .pointer (some ⟨M, 3, none⟩)) (rfl) (fun j u _ _ h => qth_keep (qupd10 (by decide)) (Below.refl _ _) j u h) (qg_upd 2 (by decide) hI.g) ?_
        intro K hKK
        go_simp
        exact hKK
      · obtain ⟨_, e0, rfl⟩ := hI.val 2 25 (by decide +kernel) (hw 2 (by kernel_rfl)) (by kernel_rfl)
        obtain ⟨c3, c4, c5, c6, c7, c8⟩ := HVW.out W hI.g.1
        refine hI.pure (by kernel_rfl) (by decide +kernel) (i := 3) (d := 26) rfl rfl rfl (v := .agg #[.int .i64 V.lg, .slice fa NV fc, .int .u64 V.fl, .int .u64 V.ct, .int .u64 V.at9, .int .u64 V.ls]) (rfl) (fun j u _ _ h => qth_keep (qupd10 (by decide)) (Below.refl _ _) j u h) (qg_upd 3 (by decide) hI.g) ?_
        intro K hKK
        go_simp
        exact hKK
      · have e0 := hI.kept 3 _ (by decide +kernel) rfl
        obtain ⟨c0, c1, c2, c3, c4, c5, c6⟩ := HYC.out W hI.g.1
        refine hI.pure (by kernel_rfl) (by decide +kernel) (i := 4) (d := 27) rfl rfl rfl (v := .agg #[.slice da dn dc, .slice aa an ac, .int .i64 E.lg, .int .u64 E.fl, .int .u64 E.ct, .int .u64 E.at9, .int .u64 E.ls]) (rfl) (fun j u _ _ h => qth_keep (qupd10 (by decide)) (Below.refl _ _) j u h) (qg_upd 4 (by decide) hI.g) ?_
        intro K hKK
        go_simp
        exact hKK
      · obtain ⟨_, e0, rfl⟩ := hI.val 3 26 (by decide +kernel) (hw 3 (by kernel_rfl)) (by kernel_rfl)
        obtain ⟨_, e1, rfl⟩ := hI.val 4 27 (by decide +kernel) (hw 4 (by kernel_rfl)) (by kernel_rfl)
        have h10 := qg10 hI.g (i := 5) (by decide) (by decide) hLi
        refine hI.more (by kernel_rfl) (by decide +kernel) (i := 5) (d := 28) rfl rfl rfl ?_
        intro K hKK
        go_simp
        refine (CA.out W hI.g.1).mono ?_
        rintro e W' ⟨a', c', rfl, hc', ho', hb'⟩
        exact hKK _ _ ⟨a', c', rfl, hc', fun _ => row_base ho' hI.g.1.size⟩ (fun j u _ _ h => qth_keep (qupd10 (by decide)) hb' j u h) (qg_upd 5 (by decide) (qg_below hI.g hb'))
      · obtain ⟨_, e0, a', c', rfl, hc', ho'⟩ := hI.val 5 28 (by decide +kernel) (hw 5 (by kernel_rfl)) (by kernel_rfl)
        refine hI.pure (by kernel_rfl) (by decide +kernel) (i := 6) (d := 22) rfl rfl rfl (v := .tuple #[.agg #[.int .i64 X.lg, .slice a' N c', .int .u64 X.fl, .int .u64 X.ct, .int .u64 X.at9, .int .u64 X.ls], .bool o]) (⟨a', c', rfl, hc', fun e => ho' ((qupd10 (L := L) (i := 6) (by decide)).symm.trans e)⟩) (fun j u _ _ h => qth_keep (qupd10 (by decide)) (Below.refl _ _) j u h) (qg_upd 6 (by decide) hI.g) ?_
        intro K hKK
        go_simp
        exact hKK
      · obtain ⟨_, e0, a', c', rfl, hc', ho'⟩ := hI.val 6 22 (by decide +kernel) (hw 6 (by kernel_rfl)) (by kernel_rfl)
        refine hI.pure (by kernel_rfl) (by decide +kernel) (i := 7) (d := 29) rfl rfl rfl (v := .agg #[.int .i64 X.lg, .slice a' N c', .int .u64 X.fl, .int .u64 X.ct, .int .u64 X.at9, .int .u64 X.ls]) (⟨a', c', rfl, hc', fun e => ho' ((qupd10 (L := L) (i := 7) (by decide)).symm.trans e)⟩) (fun j u _ _ h => qth_keep (qupd10 (by decide)) (Below.refl _ _) j u h) (qg_upd 7 (by decide) hI.g) ?_
        intro K hKK
        go_simp
        exact hKK
      · obtain ⟨_, e0, a', c', rfl, hc', ho'⟩ := hI.val 6 22 (by decide +kernel) (hw 6 (by kernel_rfl)) (by kernel_rfl)
        refine hI.pure (by kernel_rfl) (by decide +kernel) (i := 8) (d := 30) rfl rfl rfl (v := .bool o) (rfl) (fun j u _ _ h => qth_keep (qupd10 (by decide)) (Below.refl _ _) j u h) (qg_upd 8 (by decide) hI.g) ?_
        intro K hKK
        go_simp
        exact hKK
      · have h10 := qg10 hI.g (i := 9) (by decide) (by decide) hLi
        refine hI.more (by kernel_rfl) (by decide +kernel) (i := 9) (d := 7) rfl rfl rfl ?_
        intro K hKK
        have A := (Below.refl _ W).alloc (Nat.le_refl _) (Obj.cells #[.int .i64 0, .slice none 0 0, .int .u64 0, .int .u64 0, .int .u64 0, .int .u64 0] 31)
        go_simp
        exact hKK _ _ ⟨W.heap.size, rfl, hI.g.1.size, fun _ => ek_new W _ _, fun e => (by rw [qupd10 (by decide), h10] at e; cases e)⟩ (fun j u _ _ h => qth_keep (qupd10 (by decide)) A j u h) (qg_upd 9 (by decide) (qg_below hI.g A))
      · obtain ⟨_, e0, a', c', rfl, hc', ho'⟩ := hI.val 7 29 (by decide +kernel) (hw 7 (by kernel_rfl)) (by kernel_rfl)
        obtain ⟨_, e1, p, rfl, hHp, hz, _⟩ := hI.val 9 7 (by decide +kernel) (hw 9 (by kernel_rfl)) (by kernel_rfl)
        have ho' := ho' hLi
        have hz := hz hLi
        refine hI.store (by decide +kernel) (i := 10) rfl rfl rfl ?_
        intro K hKK
        have z0 : W.cell? ⟨p, 0, none⟩ = some (.int .i64 0) := hz.cell rfl
        have y0 := hz.free 0
        have z1 : W.cell? ⟨p, 1, none⟩ = some (.slice none 0 0) := hz.cell rfl
        have y1 := hz.free 1
        have z2 : W.cell? ⟨p, 2, none⟩ = some (.int .u64 0) := hz.cell rfl
        have y2 := hz.free 2
        have z3 : W.cell? ⟨p, 3, none⟩ = some (.int .u64 0) := hz.cell rfl
        have y3 := hz.free 3
        have z4 : W.cell? ⟨p, 4, none⟩ = some (.int .u64 0) := hz.cell rfl
        have y4 := hz.free 4
        have z5 : W.cell? ⟨p, 5, none⟩ = some (.int .u64 0) := hz.cell rfl
        have y5 := hz.free 5
        have HZ := hide hz
        have HOW := hide ho'
        clear hz ho'
        go_simp
        have hg := egrow (k := 5) (u := .int .u64 X.ls) (egrow (k := 4) (u := .int .u64 X.at9) (egrow (k := 3) (u := .int .u64 X.ct) (egrow (k := 2) (u := .int .u64 X.fl) (egrow (k := 1) (u := .slice a' N c') (fgb_set W ⟨p, 0, none⟩ (.int .i64 X.lg))))))
        have hzz := (((((HZ.out.set 0 (.int .i64 X.lg)).set 1 (.slice a' N c')).set 2 (.int .u64 X.fl)).set 3 (.int .u64 X.ct)).set 4 (.int .u64 X.at9)).set 5 (.int .u64 X.ls)
        have how2 := ownF_far HOW.out hg (own_not_view HOW.out HZ.out)
        refine hKK _ (fun j e u _ _ hde hu h => qth_store (upd_same _ _) j u (fun hj => ?_) h) ⟨hI.g.1.grown hg hI.g.1.size (fun k hk => by cases hk; exact hHp), fun _ j hj h8 => upd_more (hw j (qwaits_but (k := 8) (by kernel_rfl) j hj h8))⟩
        subst hj
        have he : some e = some 7 := hde.symm.trans (by kernel_rfl)
        cases he
        rw [e1] at hu
        cases hu
        exact ⟨p, rfl, hHp, fun e => (by rw [upd_same] at e; cases e), fun _ => ⟨a', c', hzz, hc', how2⟩⟩
      · obtain ⟨_, e0, rfl⟩ := hI.val 8 30 (by decide +kernel) (hw 8 (by kernel_rfl)) (by kernel_rfl)
        refine hI.pure (by kernel_rfl) (by decide +kernel) (i := 11) (d := 8) rfl rfl rfl (v := .bool o) (rfl) (fun j u _ _ h => qth_keep (qupd10 (by decide)) (Below.refl _ _) j u h) (qg_upd 11 (by decide) hI.g) ?_
        intro K hKK
        go_simp
        exact hKK
    case fin =>
      intro L A W hI hall
      obtain ⟨_, s0, rfl⟩ := hI.val 0 23 (by decide +kernel) (hall 0 (by decide +kernel)) (by kernel_rfl)
      obtain ⟨_, s1, rfl⟩ := hI.val 1 24 (by decide +kernel) (hall 1 (by decide +kernel)) (by kernel_rfl)
      obtain ⟨_, s2, rfl⟩ := hI.val 2 25 (by decide +kernel) (hall 2 (by decide +kernel)) (by kernel_rfl)
      obtain ⟨_, s3, rfl⟩ := hI.val 3 26 (by decide +kernel) (hall 3 (by decide +kernel)) (by kernel_rfl)
      obtain ⟨_, s4, rfl⟩ := hI.val 4 27 (by decide +kernel) (hall 4 (by decide +kernel)) (by kernel_rfl)
      obtain ⟨_, s5, aq, cq, rfl, _, _⟩ := hI.val 5 28 (by decide +kernel) (hall 5 (by decide +kernel)) (by kernel_rfl)
      obtain ⟨_, s6, ar, cr, rfl, _, _⟩ := hI.val 6 22 (by decide +kernel) (hall 6 (by decide +kernel)) (by kernel_rfl)
      obtain ⟨_, s7, ay, cy, rfl, _, _⟩ := hI.val 7 29 (by decide +kernel) (hall 7 (by decide +kernel)) (by kernel_rfl)
      obtain ⟨_, s8, rfl⟩ := hI.val 8 30 (by decide +kernel) (hall 8 (by decide +kernel)) (by kernel_rfl)
      obtain ⟨_, s9, p, rfl, hHp, _, hp2⟩ := hI.val 9 7 (by decide +kernel) (hall 9 (by decide +kernel)) (by kernel_rfl)
      obtain ⟨_, s11, rfl⟩ := hI.val 11 8 (by decide +kernel) (hall 11 (by decide +kernel)) (by kernel_rfl)
      have hfr := si_frame hI [(23, .pointer (some ⟨M, 0, none⟩)), (24, .pointer (some ⟨M, 0, none⟩)), (25, .pointer (some ⟨M, 3, none⟩)), (26, .agg #[.int .i64 V.lg, .slice fa NV fc, .int .u64 V.fl, .int .u64 V.ct, .int .u64 V.at9, .int .u64 V.ls]), (27, .agg #[.slice da dn dc, .slice aa an ac, .int .i64 E.lg, .int .u64 E.fl, .int .u64 E.ct, .int .u64 E.at9, .int .u64 E.ls]), (28, .tuple #[.agg #[.int .i64 X.lg, .slice aq N cq, .int .u64 X.fl, .int .u64 X.ct, .int .u64 X.at9, .int .u64 X.ls], .bool o]), (22, .tuple #[.agg #[.int .i64 X.lg, .slice ar N cr, .int .u64 X.fl, .int .u64 X.ct, .int .u64 X.at9, .int .u64 X.ls], .bool o]), (29, .agg #[.int .i64 X.lg, .slice ay N cy, .int .u64 X.fl, .int .u64 X.ct, .int .u64 X.at9, .int .u64 X.ls]), (30, .bool o), (7, .pointer (some ⟨p, 0, none⟩)), (8, .bool o)] (by kernel_rfl) (List.forall_mem_cons.2 ⟨s0, List.forall_mem_cons.2 ⟨s1, List.forall_mem_cons.2 ⟨s2, List.forall_mem_cons.2 ⟨s3, List.forall_mem_cons.2 ⟨s4, List.forall_mem_cons.2 ⟨s5, List.forall_mem_cons.2 ⟨s6, List.forall_mem_cons.2 ⟨s7, List.forall_mem_cons.2 ⟨s8, List.forall_mem_cons.2 ⟨s9, List.forall_mem_cons.2 ⟨s11, List.forall_mem_nil _⟩⟩⟩⟩⟩⟩⟩⟩⟩⟩⟩)
      obtain ⟨ax, cx, hekx, hcx, hox⟩ := hp2 (hall 10 (by decide +kernel))
      have hbx := hI.g.1
      rw [hfr]
      clear hfr hI hall hp2 s0 s1 s2 s3 s4 s5 s6 s7 s8 s9 s11
      simp only [List.foldl, List.setIfInBounds_toArray, List.set_cons_zero, List.set_cons_succ]
      go_wp2_with fail
      go_meet
      case rel => exact ⟨rfl, hide ⟨p, ax, cx, rfl, hHp, hekx, hcx, hox, hbx⟩⟩
  case rest =>
    obtain ⟨rfl, hvb⟩ := hcut
    obtain ⟨w3, hw3⟩ : ∃ x, x = wc := ⟨_, rfl⟩
    subst hw3
    obtain ⟨p, a, c', rfl, hp, hek, hc', hof, hbx⟩ := hvb.out
    have HB3 := hide (HB2.out.trans (hbx.mono HB2.out.size))
    clear hvb CA HVW HYC KE2
    cases o with
    | false =>
      have HE := hide (HR1.out w3 (.inr (HXO.out.2 rfl)) HB3.out)
      clear HR1 HR2 HM HX HXO HN HWF HXN hek hof hbx
      go_wp2
      first | exact HE.out | (go_ret; exact HE.out)
    | true =>
      have hap := HXO.out.1 rfl
      have hxn := HXN.out rfl
      have hwf := HWF.out rfl
      have hb3s := HB3.out.size
      have hb2s2 := HB2.out.size
      have hbxs := hbx.size
      have hMw := HM.out.lt
      obtain ⟨E1, Sa, e1⟩ : ∃ E1 Sa, appendS S (mnm n) (fr 6 (ebd E)) = (E1, Sa) := ⟨_, _, rfl⟩
      have k1 := append_calls S (mnm n) (fr 6 (ebd E))
      rw [e1] at k1
      simp only at k1
      have m3 := HM.out.wide HB3.out
      have hd : Below w3.heap.size w3 w3.drew := (Below.refl _ w3).drew
      have hsz := (mnm_okAll n h2).2
      have AP := hide (append_h0 (mnm n) ab LB cb2 (fr 6 (ebd E)) e1 (m3.held.same hd).1 (by omega) (by omega) ((HBs.out.below hbx (Nat.le_refl _)).below hd (Nat.le_refl _)) (by omega) (fun _ b off hx => .inr ⟨(HBK.out b off hx).1, by have := (HBK.out b off hx).2; omega⟩))
      have NM := hide (mname_any (m3.below hd) h1 h2)
      obtain ⟨am, fcm, hbm, _⟩ := m3.blk
      have HK0 : w3.drew.cell? ⟨M, 0, none⟩ = some (.pointer (some ⟨R, 0, none⟩)) := (hbm.keep hd).cell rfl
      have HK2 := hide (show ∀ W, Same (fun i => F i ∨ w.heap.size ≤ i ∧ i < w3.heap.size) w3.drew W → W.cell? ⟨M, 0, none⟩ = some (.pointer (some ⟨R, 0, none⟩)) from fun W hW => ((hbm.keep hd).same hW m3.own).cell rfl)
      obtain ⟨af, cf, hvf, -, hff, hxf⟩ := ownF_fs hof hwf
      rw [HN.out] at hvf hff
      injection hvf with q1 q2 q3
      subst q1 q3
      have HFF := hide hff
      have HXF := hide (show ∀ x, a = some x → (F x.block ∨ (w.heap.size ≤ x.block ∧ x.block < w3.heap.size)) ∧ x.block ≠ M from fun x e => by
        have h1 := hxf x e
        subst e
        have h2 := (World.ownsRow.lt hof _ (by rfl)).2
        exact ⟨.inr ⟨by omega, h2⟩, by omega⟩)
      have HEK := hide hek
      have M3 := hide m3
      have S3 := hide (same_of (F := F) HB3.out (fun i hi => HM.out.held.lt hi))
      have hplt := hek.lt
      clear hof hwf hxf hff hbm hek hbx m3 hd HXO HWF HXN HBs HBK HRG HX
      obtain ⟨Z, hZ⟩ : ∃ Z, mnm n = Z := ⟨_, rfl⟩
      rw [hZ] at AP NM
      have HZZ := hide hZ
      clear hZ
      go_wp2_with fail
      go_region_held_law (fun W => W.cell? ⟨M, 0, none⟩ = some (.pointer (some ⟨R, 0, none⟩)))
        (first | exact HK0 | exact HK2.out _ (by with_reducible assumption))
        (first | (go_at_call 19; refine NM.out.mono ?_; rintro e w4 ⟨rfl, rfl⟩) | (go_at_call 22; refine AP.out.mono ?_; rintro e w4 ⟨rfl, h4, s4⟩))
      have s34 := (same_drew (fun i => F i ∨ w.heap.size ≤ i ∧ i < w3.heap.size) w3).trans s4
      have M4 := hide (M3.out.disk h4 s34)
      have S4 := hide (S3.out.trans (s34.mono (F' := F) (fun i hi => .inl hi)))
      have hek4 := HEK.out.same s34 (.inr ⟨by omega, hplt⟩)
      have hff4 := HFF.out.same s34 (fun x hx => (HXF.out x hx).1)
      clear AP NM h4 s4 s34 S3 HK0 HK2 M3 HEK HFF
      by_cases n1 : E1 = 0
      case neg =>
        have hne : ¬ ((E1 : Int) = 0) := by omega
        have HE := hide (HR2.out w4 X E1 0 Sa HMAY.out hap (save_f0 e1 n1) (S4.out.mono (fun i hi => hi.1)) ⟨(fun i => F i ∨ w.heap.size ≤ i ∧ i < w3.heap.size), (fun i hi => Or.inl hi), by rw [if_pos rfl, if_pos rfl]; exact M4.out⟩)
        clear M4 S4 HR1 HR2 HM HN hek4 hff4 HXF
        go_wp2
        first | exact HE.out | (go_ret; exact HE.out)
      subst n1
      obtain ⟨m5, ch5⟩ := ma_put (U := X) M4.out (c + 1) ((c : Int) + 1) (by omega) a c' (by rw [HN.out]; exact hff4) hc' HXF.out
      unfold setV at m5 ch5
      rw [HN.out] at m5 ch5
      obtain ⟨E2, Sb, e2⟩ : ∃ E2 Sb, syncS Sa (mnm n) = (E2, Sb) := ⟨_, _, rfl⟩
      have k2 := sync_calls Sa (mnm n)
      rw [e2] at k2
      simp only at k2
      have M5 := hide m5
      have S5 := hide ((S4.out.mono (F' := fun i => F i ∧ i ≠ M) (fun i hi => hi.1)).trans (same_ch ch5 (fun i hi => ⟨M4.out.held.lt (.inl hi.1), hi.2⟩)))
      obtain ⟨a4, fc4, hb4, _⟩ := M4.out.blk
      have c2 : w4.cell? ⟨M, 2, none⟩ = some (.int .i64 c) := hb4.cell rfl
      have c3 : w4.cell? ⟨M, 3, none⟩ = some (.int .i64 V.lg) := hb4.cell rfl
      have c4 : w4.cell? ⟨M, 4, none⟩ = some (.slice a4 V.f.length fc4) := hb4.cell rfl
      have c5 : w4.cell? ⟨M, 5, none⟩ = some (.int .u64 V.fl) := hb4.cell rfl
      have c6 : w4.cell? ⟨M, 6, none⟩ = some (.int .u64 V.ct) := hb4.cell rfl
      have c7 : w4.cell? ⟨M, 7, none⟩ = some (.int .u64 V.at9) := hb4.cell rfl
      have c8 : w4.cell? ⟨M, 8, none⟩ = some (.int .u64 V.ls) := hb4.cell rfl
      have f2 := hb4.free 2
      have f3 := hb4.free 3
      have f4 := hb4.free 4
      have f5 := hb4.free 5
      have f6 := hb4.free 6
      have f7 := hb4.free 7
      have f8 := hb4.free 8
      have g0 : w4.cell? ⟨p, 0, none⟩ = some (.int .i64 X.lg) := hek4.cell rfl
      have g1 : w4.cell? ⟨p, 1, none⟩ = some (.slice a N c') := hek4.cell rfl
      have g2 : w4.cell? ⟨p, 2, none⟩ = some (.int .u64 X.fl) := hek4.cell rfl
      have g3 : w4.cell? ⟨p, 3, none⟩ = some (.int .u64 X.ct) := hek4.cell rfl
      have g4 : w4.cell? ⟨p, 4, none⟩ = some (.int .u64 X.at9) := hek4.cell rfl
      have g5 : w4.cell? ⟨p, 5, none⟩ = some (.int .u64 X.ls) := hek4.cell rfl
      clear hb4 m5 ch5 M4 S4 hek4 hff4 HXF
      obtain ⟨w5, hw5⟩ : ∃ w5, ((((((((w4.setCell ⟨M, 3, none⟩ (.int .i64 X.lg)).setCell ⟨M, 4, none⟩ (.slice a N c')).setCell ⟨M, 5, none⟩ (.int .u64 X.fl)).setCell ⟨M, 6, none⟩ (.int .u64 X.ct)).setCell ⟨M, 7, none⟩ (.int .u64 X.at9)).setCell ⟨M, 8, none⟩ (.int .u64 X.ls)).setCell ⟨M, 2, none⟩ (.int .i64 ((c : Int) + 1)))) = w5 := ⟨_, rfl⟩
      rw [hw5] at M5 S5
      go_wp2_with fail
      try rw [hw5]
      clear hw5 c2 c3 c4 c5 c6 c7 c8 f2 f3 f4 f5 f6 f7 f8 g0 g1 g2 g3 g4 g5
      have hd : Below w5.heap.size w5 w5.drew := (Below.refl _ w5).drew
      have SY := hide (sync_h (mnm n) e2 (M5.out.held.same hd).1 (by omega) (by omega))
      have NM := hide (mname_any (M5.out.below hd) h1 h2)
      obtain ⟨am, fcm, hbm, _⟩ := M5.out.blk
      have HK0 : w5.drew.cell? ⟨M, 0, none⟩ = some (.pointer (some ⟨R, 0, none⟩)) := (hbm.keep hd).cell rfl
      have HK2 := hide (show ∀ W, Same (fun i => F i ∨ w.heap.size ≤ i ∧ i < w3.heap.size) w5.drew W → W.cell? ⟨M, 0, none⟩ = some (.pointer (some ⟨R, 0, none⟩)) from fun W hW => ((hbm.keep hd).same hW M5.out.own).cell rfl)
      rw [HZZ.out] at SY NM
      clear hbm hd
      go_region_held_law (fun W => W.cell? ⟨M, 0, none⟩ = some (.pointer (some ⟨R, 0, none⟩)))
        (first | exact HK0 | exact HK2.out _ (by with_reducible assumption))
        (first | (go_at_call 19; refine NM.out.mono ?_; rintro e w6 ⟨rfl, rfl⟩) | (go_at_call 40; refine SY.out.mono ?_; rintro e w6 ⟨rfl, h6, s6⟩))
      have s56 := (same_drew (fun i => F i ∨ w.heap.size ≤ i ∧ i < w3.heap.size) w5).trans s6
      have M6 := hide (M5.out.disk h6 s56)
      have S6 := hide (S5.out.trans (s56.mono (F' := fun i => F i ∧ i ≠ M) (fun i hi => .inl hi.1)))
      clear SY NM h6 s6 s56 S5 HK0 HK2 M5
      by_cases n2 : E2 = 0
      case neg =>
        have hne : ¬ ((E2 : Int) = 0) := by omega
        have BR := hide (breaks_any M6.out)
        go_wp2_with fail
        refine BR.out.mono ?_
        rintro e w7 ⟨rfl, m7, ch7⟩
        have HE := hide (HR2.out w7 X E2 1 Sb HMAY.out hap (save_f1 e1 e2 n2) (S6.out.trans (same_ch ch7 (fun i hi => ⟨M6.out.held.lt (.inl hi.1), hi.2⟩))) ⟨(fun i => F i ∨ w.heap.size ≤ i ∧ i < w3.heap.size), (fun i hi => Or.inl hi), by rw [if_neg (by decide), if_neg (by decide)]; exact m7⟩)
        clear BR m7 ch7 M6 S6 HR1 HR2 HM HN
        go_wp2
        first | exact HE.out | (go_ret; exact HE.out)
      subst n2
      have HE := hide (HR2.out w6 X 0 2 Sb HMAY.out hap (save_f2 e1 e2) S6.out ⟨(fun i => F i ∨ w.heap.size ≤ i ∧ i < w3.heap.size), (fun i hi => Or.inl hi), by rw [if_neg (by decide), if_neg (by decide)]; exact M6.out⟩)
      clear M6 S6 HR1 HR2 HM HN
      go_wp2
      first | exact HE.out | (go_ret; exact HE.out)

end Go.Proofs.YtcahlmneancapaaGreatDoor.Clep

/- What a loss of power leaves of a manifest. Up to 60 files. -/
namespace Go.Proofs.YtcahlmneancapaaGreatDoor.Clep
open Go.RowKit Go.Maps Go.Sort
set_option linter.unusedVariables false
set_option maxRecDepth 10000

theorem fileAt_cons (g : Fl) (r : List Fl) (k : Int) : fileAt (g :: r) k = if (g.num : Int) = k then some g else fileAt r k := by
  unfold fileAt
  rw [List.find?_cons]
  by_cases h : (g.num : Int) = k
  · simp [h]
  · have : ((g.num : Int) == k) = false := by simpa using h
    simp [this, h]
theorem crash_at : ∀ (fs : List Fl) (ks : List Int) (k : Int) (f : Fl), (∀ f ∈ fs, f.lasts ≤ f.bs.length) → fileAt fs k = some f → ∃ K, f.lasts ≤ K ∧ K ≤ f.bs.length ∧ fileAt (crashAll fs ks).1 k = some ⟨f.num, f.bs.take K, K⟩
  | [], _, _, _, _, h => by cases h
  | g :: r, ks, k, f, hl, h => by
    have h1 := hl g List.mem_cons_self
    rw [fileAt_cons] at h
    show ∃ K, f.lasts ≤ K ∧ K ≤ f.bs.length ∧ fileAt (crashF g ks :: (crashAll r (restK g ks)).1) k = _
    have hn : (crashF g ks).num = g.num := rfl
    by_cases e : (g.num : Int) = k
    · rw [if_pos e] at h
      injection h with h
      subst h
      refine ⟨g.lasts + keepN g ks, by omega, keepN_le g ks h1, ?_⟩
      rw [fileAt_cons, hn, if_pos e]
      rfl
    · rw [if_neg e] at h
      obtain ⟨K, a, b, c⟩ := crash_at r (restK g ks) k f (fun f hf => hl f (List.mem_cons_of_mem _ hf)) h
      refine ⟨K, a, b, ?_⟩
      rw [fileAt_cons, hn, if_neg e]
      exact c
theorem crash_mem : ∀ (fs : List Fl) (ks : List Int), (∀ f ∈ fs, f.lasts ≤ f.bs.length) → (∀ f' ∈ (crashAll fs ks).1, ∃ f ∈ fs, f'.num = f.num ∧ f'.lasts ≤ f'.bs.length) ∧ totF (crashAll fs ks).1 ≤ totF fs
  | [], _, _ => ⟨(fun f' h => absurd h List.not_mem_nil), Nat.le_refl _⟩
  | g :: r, ks, hl => by
    have h1 := keepN_le g ks (hl g List.mem_cons_self)
    obtain ⟨a, b⟩ := crash_mem r (restK g ks) (fun f hf => hl f (List.mem_cons_of_mem _ hf))
    refine ⟨fun f' h => ?_, ?_⟩
    · rcases List.mem_cons.1 h with rfl | h
      · refine ⟨g, List.mem_cons_self, rfl, ?_⟩
        show g.lasts + keepN g ks ≤ (g.bs.take (g.lasts + keepN g ks)).length
        rw [List.length_take]; omega
      · obtain ⟨f, hf, e⟩ := a f' h
        exact ⟨f, List.mem_cons_of_mem _ hf, e⟩
    · show totF (crashF g ks :: (crashAll r (restK g ks)).1) ≤ totF (g :: r)
      unfold totF at b ⊢
      simp only [List.map_cons, List.sum_cons]
      have : (crashF g ks).bs.length ≤ g.bs.length := by show (g.bs.take _).length ≤ _; rw [List.length_take]; omega
      omega
theorem okM.less {T : Nat} {s : ByteArray} (h : okM (T + 1) s) (hs : s ≠ mnm (T + 1)) : okM T s := by
  rcases h with h | h | ⟨k, h1, h2, h⟩
  · exact .inl h
  · exact .inr (.inl h)
  · refine .inr (.inr ⟨k, h1, ?_, h⟩)
    rcases Nat.lt_or_ge T k with hk | hk
    · exact absurd (by rw [h, show k = T + 1 by omega]) hs
    · exact hk
/-- The greatest number among the names. -/
theorem dk_top : ∀ (T : Nat) (S : St), Dk S T → (∀ N, Outs S N → N = lk S.names) → (∃ n, 1 ≤ n ∧ n ≤ T ∧ lk S.names (mnm n) ≠ 0) → ∃ T', 1 ≤ T' ∧ T' ≤ T ∧ Dk S T' ∧ lk S.names (mnm T') ≠ 0
  | 0, S, D, ho, ⟨n, h1, h2, _⟩ => by omega
  | T + 1, S, D, ho, ⟨n, h1, h2, h3⟩ => by
    by_cases h : lk S.names (mnm (T + 1)) ≠ 0
    · exact ⟨T + 1, by omega, Nat.le_refl _, D, h⟩
    · have h0 : lk S.names (mnm (T + 1)) = 0 := Classical.byContradiction h
      have hn : n ≤ T := by
        rcases Nat.lt_or_ge T n with hk | hk
        · exact absurd (by rw [show T + 1 = n by omega] at h0; exact h0) h3
        · exact hk
      have D' : Dk S T := ⟨D.hn, D.hl, D.cr, D.nm, D.fm, fun N hN => by
        have K := D.all N hN
        exact ⟨K.leads, K.inj, fun s hs => (K.sup s hs).less (fun e => by rw [e, ho N hN] at hs; exact hs h0)⟩, by have := D.sm; omega, D.ri⟩
      obtain ⟨T', a, b, c⟩ := dk_top T S D' ho ⟨n, h1, hn, h3⟩
      exact ⟨T', a, by omega, c⟩
theorem at_low {le : Nat → List Int} {S : St} {T n : Nat} {N : ByteArray → Int} {X : List Int} {L : Nat} (D : Dk S T) (hN : Outs S N) (h : Am le S.files N n X L) (hn : 1 ≤ n ∧ n < 100) : n ≤ T := by
  have h1 := (at_fl D h).2.1
  rcases (D.all N hN).sup _ h1 with h | h | ⟨k, h2, h3, h⟩
  · exact absurd h (mnm_cur hn.2 hn.1)
  · exact absurd h (mnm_frs hn.2 hn.1)
  · rw [mnm_inj hn.2 (by have := D.sm; omega) h]; exact h3
theorem crash_ok {le : Nat → List Int} {S S' : St} {T : Nat} (ks : List Int) (P : Nat → List Int → Nat → Prop) (D : Dk S T) (hA : ∀ N, Outs S N → ∃ n X L, (1 ≤ n ∧ n < 100) ∧ Am le S.files N n X L ∧ P n X L) (e : crashS S ks = S') :
    (S'.stop = 0 ∧ S'.fail = 0 ∧ S'.dead = false) ∧ S'.calls = S.calls ∧ S'.q = S.q ∧ tot S' ≤ tot S ∧ (∀ N, Outs S' N → N = lk S'.names) ∧
    ∃ T', 1 ≤ T' ∧ T' ≤ T ∧ Dk S' T' ∧ lk S'.names (mnm T') ≠ 0 ∧ ∃ n X L K, P n X L ∧ L ≤ K ∧ K ≤ X.length ∧ Solo le S' n (X.take K) K := by
  have hfl : ∀ f ∈ S.files, f.lasts ≤ f.bs.length := fun f hf => (D.fm f hf).2.2
  obtain ⟨hHL, hout⟩ := outs_all S.since S.lasting (crashAll S.files ks).2 (fun M => M = lk S.lasting) D.hl D.cr rfl
  obtain ⟨hmem, htot⟩ := crash_mem S.files ks hfl
  generalize hDD : doAll S.since S.lasting (crashAll S.files ks).2 = DD at *
  generalize hFF : (crashAll S.files ks).1 = FF at *
  have hK := D.all _ hout
  have hat : ∀ k f, fileAt S.files k = some f → ∃ K, f.lasts ≤ K ∧ K ≤ f.bs.length ∧ fileAt FF k = some ⟨f.num, f.bs.take K, K⟩ := fun k f h => by
    rw [← hFF]; exact crash_at S.files ks k f hfl h
  let M : St := { S with files := FF, names := DD, lasting := DD, since := [] }
  have hoM : ∀ N, Outs M N → N = lk M.names := fun N h => h
  have DM : Dk M T := ⟨hHL, hHL, fun c hc => absurd hc List.not_mem_nil, rfl, fun f hf => by
    obtain ⟨f0, h0, e1, e2⟩ := hmem f hf
    have := D.fm f0 h0
    exact ⟨by omega, by show f.num ≤ S.made; omega, e2⟩, fun N hN => by
    rw [hoM N hN]
    exact ⟨fun s hs => by
      obtain ⟨f, hf⟩ := hK.leads s hs
      obtain ⟨K, _, _, h⟩ := hat _ f hf
      exact ⟨_, h⟩, hK.inj, hK.sup⟩, D.sm, by
    show (FF.map (·.num)).Nodup
    rw [← hFF, crashAll_nums]; exact D.ri⟩
  obtain ⟨n, X, L, hn, hAt, hP⟩ := hA _ hout
  have hle := at_low D hout hAt hn
  have hfl2 := at_fl D hAt
  obtain ⟨g, f, a1, a2, a3, a4, a5, a6⟩ := hAt
  obtain ⟨K1, b1, b2, b3⟩ := hat _ g a1
  obtain ⟨K2, c1, c2, c3⟩ := hat _ f a4
  have hK1 : K1 = g.bs.length := by omega
  obtain ⟨D2, ho2⟩ := settle_dk DM
  have eS : S' = { settleS M with stop := 0, fail := 0, dead := false } := by
    rw [← e]; unfold crashS; rw [hDD, hFF]
  have D3 : Dk S' T := by rw [eS]; exact ⟨D2.hn, D2.hl, D2.cr, D2.nm, D2.fm, D2.all, D2.sm, D2.ri⟩
  have ho3 : ∀ N, Outs S' N → N = lk S'.names := fun N hN => by rw [eS] at hN ⊢; exact hN
  have hln : lk S'.names = lk DD := by rw [eS]; rfl
  have hf1 : fileAt S'.files (lk DD nCur) = some ⟨g.num, g.bs.take K1, K1⟩ := by
    rw [eS]; exact (settle_at M (s := nCur) hHL hfl2.1).trans b3
  have hf2 : fileAt S'.files (lk DD (mnm n)) = some ⟨f.num, f.bs.take K2, K2⟩ := by
    rw [eS]; exact (settle_at M (s := mnm n) hHL hfl2.2.1).trans c3
  refine ⟨by rw [eS]; exact ⟨rfl, rfl, rfl⟩, by rw [eS]; rfl, by rw [eS]; rfl, ?_, ho3, ?_⟩
  · rw [eS]; exact Nat.le_trans (tot_filter _ _) htot
  · obtain ⟨T', t1, t2, t3, t4⟩ := dk_top T S' D3 ho3 ⟨n, hn.1, hle, by rw [hln]; exact hfl2.2.1⟩
    refine ⟨T', t1, t2, t3, t4, n, X, L, K2, hP, by omega, by rw [← a5]; exact c2, ⟨⟨lk DD (mnm n), fun N hN => ?_⟩, hn⟩⟩
    rw [ho3 N hN, hln]
    refine ⟨rfl, _, _, hf1, ?_, ?_, hf2, by rw [← a5], rfl⟩
    · show g.bs.take K1 = le n
      rw [hK1, List.take_length]; exact a2
    · show K1 = (g.bs.take K1).length
      rw [hK1, List.take_length]

/-! A Disk that a manifest was made on. -/
def eCur (k : Int) : Lit × DataW Unit := (key nCur, i64L k)
def dk1 : DataW Unit := .map [(key nCur, i64L 2), (key (mnm 1), i64L 1)]
def newM (q c : Nat) (W Z : List Int) : St := ⟨q, c, 0, 0, false, 2, [⟨1, W, W.length⟩, ⟨2, Z, Z.length⟩], dk1, dk1, []⟩

end Go.Proofs.YtcahlmneancapaaGreatDoor.Clep

/- What Open, Rewrite and New of a Manifest do when called (walks over the translated program). Disks of up to 60 files of a manifest, numbers from 1 to 99. -/
namespace Go.Proofs.YtcahlmneancapaaGreatDoor.Clep
open Go.RowKit Go.Maps Go.Sort
set_option linter.unusedVariables false
set_option maxRecDepth 10000

theorem open_nil (w : World) : Calls Tryz.prog 12 #[.pointer none] w fun e w' => e = .returned (.tuple #[.pointer none, .int .i64 1]) ∧ w' = w := by
  go_enter Tryz.func12, Tryz.ntmps12
  go_wp2
  go_ret2
  exact ⟨rfl, rfl⟩
/-- What keeps Open from a Manifest: no current, one that leads nowhere, no file, no log. -/
theorem open_none {F : Nat → Prop} {R : Nat} {S : St} {w : World} {E : Nat} {X : List Int} (h : Held F w R S) (e : readS S nCur = (E, X)) (hE : E ≠ 0) :
    Calls Tryz.prog 12 #[.pointer (some ⟨R, 0, none⟩)] w fun e w' => e = .returned (.tuple #[.pointer none, .int .i64 E]) ∧ Held F w' R S ∧ Below w.heap.size w w' := by
  have RD := hide (read_h nCur e h nCur_sz)
  have hne : ¬ ((E : Int) = 0) := by omega
  unfold nCur at RD
  clear h e
  go_enter Tryz.func12, Tryz.ntmps12
  go_wp2_with fail
  refine RD.out.mono ?_
  rintro e w2 ⟨ao, cap, rfl, -, h2, hb⟩
  have HE := hide (And.intro h2 hb)
  generalize X.length = N at *
  clear RD h2 hb
  go_wp2
  go_ret2
  exact ⟨rfl, HE.out⟩
theorem open_bad {F : Nat → Prop} {R : Nat} {S : St} {w : World} {X : List Int} (h : Held F w R S) (e : readS S nCur = (0, X)) (hl : ldP X = none) :
    Calls Tryz.prog 12 #[.pointer (some ⟨R, 0, none⟩)] w fun e w' => e = .returned (.tuple #[.pointer none, .int .i64 9]) ∧ Held F w' R S ∧ Below w.heap.size w w' := by
  obtain ⟨hxr, hxl⟩ := held_bytes h e
  have RD := hide (read_h nCur e h nCur_sz)
  have HH := hide h
  unfold nCur at RD
  clear h e
  go_enter Tryz.func12, Tryz.ntmps12
  go_wp2_with fail
  refine RD.out.mono ?_
  rintro e w2 ⟨ao, cap, rfl, ho, h2, hb⟩
  obtain ⟨ao', cap', hv, hcm, hB, -⟩ := own_bs ho (range_of hxr)
  injection hv with e1 _ e3
  subst e1 e3
  have LD := hide (leads_any ao X.length cap X w2 (by omega) hB)
  have HB := hide hb
  unfold LdA at LD
  rw [hl] at LD
  generalize X.length = N at *
  clear RD ho h2 hb hB hxr
  go_wp2_with fail
  refine LD.out.mono ?_
  rintro e w3 ⟨rfl, hb3⟩
  have HE := hide (And.intro (HH.out.same (bmore HB.out hb3)).1 (bmore HB.out hb3))
  clear LD hb3 HB HH
  go_wp2
  go_ret2
  exact ⟨rfl, HE.out⟩
/-- current leads to man.n, which is not there, or is no log. -/
theorem open_lost {F : Nat → Prop} {R n : Nat} {S : St} {w : World} {X Y : List Int} {E : Nat} (h : Held F w R S) (e : readS S nCur = (0, X)) (hl : ldP X = some n) (h1 : 1 ≤ n) (h2 : n < 100) (e2 : readS S (mnm n) = (E, Y)) (hE : E ≠ 0 ∨ E = 0 ∧ rpE Y = none) :
    Calls Tryz.prog 12 #[.pointer (some ⟨R, 0, none⟩)] w fun e w' => e = .returned (.tuple #[.pointer none, .int .i64 9]) ∧ Held F w' R S ∧ Below w.heap.size w w' := by
  obtain ⟨hxr, hxl⟩ := held_bytes h e
  have RD := hide (read_h nCur e h nCur_sz)
  have RS := hide (show ∀ W, Held F W R S → Calls Tryz.prog 43 #[.pointer (some ⟨R, 0, none⟩), .int .i64 n] W fun e w' => e = .returned (.tuple #[.pointer none, .bool false, .bool false]) ∧ Held F w' R S ∧ Below W.heap.size W w' from fun W hW => by
    rcases hE with hE | ⟨hE, hr⟩
    · exact resume_none hW h1 h2 e2 hE
    · subst hE
      have := resume_any hW h1 h2 e2
      unfold ReA at this
      rw [hr] at this
      exact this)
  have HH := hide h
  unfold nCur at RD
  clear h e e2 hE
  go_enter Tryz.func12, Tryz.ntmps12
  go_wp2_with fail
  refine RD.out.mono ?_
  rintro e w2 ⟨ao, cap, rfl, ho, hh2, hb⟩
  obtain ⟨ao', cap', hv, hcm, hB, -⟩ := own_bs ho (range_of hxr)
  injection hv with e1 _ e3
  subst e1 e3
  have LD := hide (leads_any ao X.length cap X w2 (by omega) hB)
  have HB := hide hb
  unfold LdA at LD
  rw [hl] at LD
  generalize X.length = N at *
  clear RD ho hh2 hb hB hxr
  go_wp2_with fail
  refine LD.out.mono ?_
  rintro e w3 ⟨rfl, hb3⟩
  have HB3 := hide (bmore HB.out hb3)
  have R3 := hide (RS.out w3 (HH.out.same (bmore HB.out hb3)).1)
  clear LD hb3 HB HH RS
  go_wp2_with fail
  refine R3.out.mono ?_
  rintro e w4 ⟨rfl, h4, hb4⟩
  have HE := hide (And.intro h4 (bmore HB3.out hb4))
  clear R3 h4 hb4 HB3
  go_wp2
  go_ret2
  exact ⟨rfl, HE.out⟩
/-- What Open answers of a file that is a log: the Manifest that goes on, or that of a renewal. -/
def OpA (F : Nat → Prop) (R n : Nat) (S : St) (V : Vw) (c : Nat) (whole : Bool) (w : World) (e : Ending) (w' : World) : Prop :=
  (whole = true ∧ c ≤ 30 → ∃ M F', (∀ i, F i → F' i) ∧ e = .returned (.tuple #[.pointer (some ⟨M, 0, none⟩), .int .i64 0]) ∧ Ma F' w' M R n c V false S ∧ Below w.heap.size w w' ∧ w.heap.size ≤ M) ∧
  (¬ (whole = true ∧ c ≤ 30) → ∃ E ph S', renewS S (nextS S) (whB V) (leB (nextS S)) = (E, ph, S') ∧ Same F w w' ∧ Held F w' R S' ∧
    (E ≠ 0 → e = .returned (.tuple #[.pointer none, .int .i64 (E : Nat)])) ∧
    (E = 0 → ∃ M F', (∀ i, F i → F' i) ∧ e = .returned (.tuple #[.pointer (some ⟨M, 0, none⟩), .int .i64 0]) ∧ Ma F' w' M R (if ph = 0 then n else nextS S) (if ph = 0 then c else 1) V (decide (ph = 1)) S' ∧ w.heap.size ≤ M))
set_option maxHeartbeats 4000000 in
theorem open_any {F : Nat → Prop} {R n T : Nat} {S : St} {w : World} {X Y : List Int} {V : Vw} {k : Nat} (h : Held F w R S) (D : Dk S T) (e : readS S nCur = (0, X)) (hl : ldP X = some n) (h1 : 1 ≤ n) (h2 : n < 100) (e2 : readS S (mnm n) = (0, Y)) (hr : rpE Y = some (V, k))
    (hu : 0 ≤ V.fl ∧ 0 ≤ V.ct ∧ 0 ≤ V.at9 ∧ 0 ≤ V.ls) (hm : S.calls < 68719476736) (hn' : 1 ≤ nextS S ∧ nextS S < 100)
    (DL : ∀ E1 S1, layS S (mnm (nextS S)) (whB V) = (E1, S1) → ∃ T1, Dk S1 T1) (DS : ∀ S4, preS S (nextS S) (whB V) (leB (nextS S)) = (0, 2, S4) → ∃ T4, Dk S4 T4) :
    Calls Tryz.prog 12 #[.pointer (some ⟨R, 0, none⟩)] w (OpA F R n S V (SP (Y.take k)).1.length (decide (k = Y.length)) w) := by
  obtain ⟨hxr, hxl⟩ := held_bytes h e
  obtain ⟨-, -, hvk⟩ := rpE_le hr
  have hfl := fun i (hi : F i) => h.lt hi
  have RD := hide (read_h nCur e h nCur_sz)
  have RS := hide (show ∀ W, Held F W R S → Calls Tryz.prog 43 #[.pointer (some ⟨R, 0, none⟩), .int .i64 n] W (ReA F R n S Y W) from fun W hW => resume_any hW h1 h2 e2)
  have HR := hide hr
  obtain ⟨c, hc⟩ : ∃ c, (SP (Y.take k)).1.length = c := ⟨_, rfl⟩
  obtain ⟨wh, hwh⟩ : ∃ wh, decide (k = Y.length) = wh := ⟨_, rfl⟩
  have RS2 := hide (show ∀ W, Held F W R S → Calls Tryz.prog 43 #[.pointer (some ⟨R, 0, none⟩), .int .i64 n] W fun e w' => ∃ M, e = .returned (.tuple #[.pointer (some ⟨M, 0, none⟩), .bool wh, .bool true]) ∧ W.heap.size ≤ M ∧ Ma (fun i => F i ∨ (W.heap.size ≤ i ∧ i < w'.heap.size)) w' M R n c V false S ∧ Below W.heap.size W w' from fun W hW => by
    have := RS.out W hW
    unfold ReA at this
    rw [HR.out] at this
    simp only [hc, hwh] at this
    exact this)
  have hc25 : c ≤ 250000 := by
    rw [← hc]
    have h3 := SP_len (Y.take k)
    have h4 : (Y.take k).length ≤ Y.length := by rw [List.length_take]; omega
    have := (held_bytes h e2).2
    omega
  rw [hc, hwh]
  have HA := hide (show ∀ W M F', (wh = true ∧ c ≤ 30) → (∀ i, F i → F' i) → Ma F' W M R n c V false S → Below w.heap.size w W → w.heap.size ≤ M → OpA F R n S V c wh w (.returned (.tuple #[.pointer (some ⟨M, 0, none⟩), .int .i64 0])) W from fun W M F' q1 q2 q3 q4 q5 => ⟨fun _ => ⟨M, F', q2, rfl, q3, q4, q5⟩, fun q => absurd q1 q⟩)
  have HB1 := hide (show ∀ W E ph S', ¬ (wh = true ∧ c ≤ 30) → renewS S (nextS S) (whB V) (leB (nextS S)) = (E, ph, S') → E ≠ 0 → Same F w W → Held F W R S' → OpA F R n S V c wh w (.returned (.tuple #[.pointer none, .int .i64 (E : Nat)])) W from fun W E ph S' q1 q2 q3 q4 q5 => ⟨fun q => absurd q q1, fun _ => ⟨E, ph, S', q2, q4, q5, fun _ => rfl, fun q => absurd q q3⟩⟩)
  have HB2 := hide (show ∀ W ph S' M F', ¬ (wh = true ∧ c ≤ 30) → renewS S (nextS S) (whB V) (leB (nextS S)) = (0, ph, S') → Same F w W → Held F W R S' → (∀ i, F i → F' i) → Ma F' W M R (if ph = 0 then n else nextS S) (if ph = 0 then c else 1) V (decide (ph = 1)) S' → w.heap.size ≤ M → OpA F R n S V c wh w (.returned (.tuple #[.pointer (some ⟨M, 0, none⟩), .int .i64 0])) W from fun W ph S' M F' q1 q2 q4 q5 q6 q7 q8 => ⟨fun q => absurd q q1, fun _ => ⟨0, ph, S', q2, q4, q5, fun q => absurd rfl q, fun _ => ⟨M, F', q6, rfl, q7, q8⟩⟩⟩)
  generalize hQ : OpA F R n S V c wh w = Q at *
  clear hQ hc hwh RS
  have HH := hide h
  have HDL := hide DL
  have HDS := hide DS
  unfold nCur at RD
  clear h e e2 hr DL DS
  go_enter Tryz.func12, Tryz.ntmps12
  go_wp2_with fail
  refine RD.out.mono ?_
  rintro e w2 ⟨ao, cap, rfl, ho, hh2, hb⟩
  obtain ⟨ao', cap', hv, hcm, hB, -⟩ := own_bs ho (range_of hxr)
  injection hv with e1 _ e3
  subst e1 e3
  have LD := hide (leads_any ao X.length cap X w2 (by omega) hB)
  have HB := hide hb
  unfold LdA at LD
  rw [hl] at LD
  generalize X.length = N at *
  clear RD ho hh2 hb hB hxr
  go_wp2_with fail
  refine LD.out.mono ?_
  rintro e w3 ⟨rfl, hb3⟩
  have HB3 := hide (bmore HB.out hb3)
  have R3 := hide (RS2.out w3 (HH.out.same (bmore HB.out hb3)).1)
  clear LD hb3 HB RS2
  go_wp2_with fail
  refine R3.out.mono ?_
  rintro e w4 ⟨M, rfl, hM, m4, hb4⟩
  have M4 := hide m4
  have HB4 := hide (bmore HB3.out hb4)
  have hb3s := HB3.out.size
  have hcell : w4.cell? ⟨M, 2, none⟩ = some (.int .i64 c) := by obtain ⟨_, _, hk, _⟩ := m4.blk; exact hk.cell rfl
  clear R3 hb4 m4
  by_cases hgo : wh = true ∧ c ≤ 30
  case pos =>
    have hgt : decide ((30 : Int) < (c : Int)) = false := by simp; omega
    have hc30 : ¬ ((30 : Int) < (c : Int)) := by omega
    obtain ⟨rfl, hc3⟩ := hgo
    have HE := hide (HA.out w4 M (fun i => F i ∨ (w3.heap.size ≤ i ∧ i < w4.heap.size)) ⟨rfl, hc3⟩ (fun i hi => .inl hi) M4.out HB4.out (by omega))
    clear HA HB1 HB2 M4 HDL HDS hfl
    go_wp2
    first | exact HE.out | (go_ret2; exact HE.out)
  have NX := hide (mnext_any M4.out D (by omega))
  obtain ⟨hn1, hn2⟩ := hn'
  generalize nextS S = n' at *
  have REN := hide (fun W (hW : Below w4.heap.size w4 W) => renew_any (M4.out.below hW) D hvk hu (by omega) hn1 hn2 HDL.out HDS.out)
  have HS4 := hide (same_of (F := F) HB4.out hfl)
  have hfM := hide (show ∀ i, F i → (F i ∨ (w3.heap.size ≤ i ∧ i < w4.heap.size)) ∧ i ≠ M from fun i hi => ⟨.inl hi, by have := hfl i hi; omega⟩)
  have FIN := hide (show ∀ (W5 W6 : World) (e : Ending), Below w4.heap.size w4 W5 → RnA (fun i => F i ∨ (w3.heap.size ≤ i ∧ i < w4.heap.size)) M R n c n' V S (whB V) W5 e W6 → ∃ E : Nat, e = .returned (.int .i64 (E : Nat)) ∧ (E ≠ 0 → Q (.returned (.tuple #[.pointer none, .int .i64 (E : Nat)])) W6) ∧ (E = 0 → Q (.returned (.tuple #[.pointer (some ⟨M, 0, none⟩), .int .i64 0])) W6) from fun W5 W6 e hb5 hrn => by
    obtain ⟨E, ph, S', q1, q2, q3, q4⟩ := hrn
    have hsm : Same F w W6 := HS4.out.trans ((same_of (F := F) hb5 (fun i hi => Nat.lt_of_lt_of_le (hfl i hi) HB4.out.size)).trans (q4.mono hfM.out))
    refine ⟨E, q2, fun hE => HB1.out W6 E ph S' hgo q1 hE hsm (q3.held.less (fun i hi => .inl hi)), fun hE => ?_⟩
    subst hE
    exact HB2.out W6 ph S' M _ hgo q1 hsm (q3.held.less (fun i hi => .inl hi)) (fun i hi => .inl hi) q3 (by omega))
  clear HA HB1 HB2 M4 HDL HDS hfl HS4 hfM HH HB3 HB4
  cases wh with
  | false =>
    go_wp2_with fail
    refine NX.out.mono ?_
    rintro e w5 ⟨rfl, hb5⟩
    have HB5 := hide hb5
    clear NX hb5 hcell
    go_wp2_with fail
    refine (REN.out w5 HB5.out).mono ?_
    intro e w6 hrn
    obtain ⟨E, rfl, hf1, hf2⟩ := FIN.out w5 w6 e HB5.out hrn
    have HF1 := hide hf1
    have HF2 := hide hf2
    clear hrn FIN REN hf1 hf2
    by_cases hE : E = 0
    · subst hE
      have HE := hide (HF2.out rfl)
      clear HF1 HF2
      go_wp2
      first | exact HE.out | (go_ret2; exact HE.out)
    · have hne : ¬ ((E : Int) = 0) := by omega
      have HE := hide (HF1.out hE)
      clear HF1 HF2
      go_wp2
      first | exact HE.out | (go_ret2; exact HE.out)
  | true =>
    have hc30 : (30 : Int) < (c : Int) := by
      have : ¬ c ≤ 30 := fun h => hgo ⟨rfl, h⟩
      omega
    go_wp2_with fail
    refine NX.out.mono ?_
    rintro e w5 ⟨rfl, hb5⟩
    have HB5 := hide hb5
    clear NX hb5 hcell
    go_wp2_with fail
    refine (REN.out w5 HB5.out).mono ?_
    intro e w6 hrn
    obtain ⟨E, rfl, hf1, hf2⟩ := FIN.out w5 w6 e HB5.out hrn
    have HF1 := hide hf1
    have HF2 := hide hf2
    clear hrn FIN REN hf1 hf2
    by_cases hE : E = 0
    · subst hE
      have HE := hide (HF2.out rfl)
      clear HF1 HF2
      go_wp2
      first | exact HE.out | (go_ret2; exact HE.out)
    · have hne : ¬ ((E : Int) = 0) := by omega
      have HE := hide (HF1.out hE)
      clear HF1 HF2
      go_wp2
      first | exact HE.out | (go_ret2; exact HE.out)
theorem mrewrite_broken {F : Nat → Prop} {w : World} {M R n c : Nat} {V : Vw} {S : St} (h : Ma F w M R n c V true S) :
    Calls Tryz.prog 28 #[.pointer (some ⟨M, 0, none⟩)] w fun e w' => e = .returned (.int .i64 14) ∧ w' = w := by
  obtain ⟨_, _, hb, _⟩ := h.blk
  have c1 : w.cell? ⟨M, 12, none⟩ = some (.bool true) := hb.cell rfl
  clear h hb
  go_enter Tryz.func28, Tryz.ntmps28
  go_wp2
  go_ret
  exact ⟨rfl, rfl⟩
theorem mrewrite_any {F : Nat → Prop} {w : World} {M R n c T : Nat} {V : Vw} {S : St} (h : Ma F w M R n c V false S) (D : Dk S T) (hV : vok V = true) (hu : 0 ≤ V.fl ∧ 0 ≤ V.ct ∧ 0 ≤ V.at9 ∧ 0 ≤ V.ls) (hm : S.calls < 68719476736) (hn' : 1 ≤ nextS S ∧ nextS S < 100)
    (DL : ∀ E1 S1, layS S (mnm (nextS S)) (whB V) = (E1, S1) → ∃ T1, Dk S1 T1) (DS : ∀ S4, preS S (nextS S) (whB V) (leB (nextS S)) = (0, 2, S4) → ∃ T4, Dk S4 T4) :
    Calls Tryz.prog 28 #[.pointer (some ⟨M, 0, none⟩)] w (RnA F M R n c (nextS S) V S (whB V) w) := by
  have hlt := fun i (hi : F i) => h.held.lt hi
  have NX := hide (mnext_any h D (by omega))
  have REN := hide (fun W (hW : Below w.heap.size w W) => renew_any (h.below hW) D hV hu (by omega) hn'.1 hn'.2 DL DS)
  have FIN := hide (show ∀ (W5 W6 : World) (e : Ending), Below w.heap.size w W5 → RnA F M R n c (nextS S) V S (whB V) W5 e W6 → (∃ E : Nat, e = .returned (.int .i64 (E : Nat))) ∧ RnA F M R n c (nextS S) V S (whB V) w e W6 from fun W5 W6 e hb5 hrn => by
    obtain ⟨E, ph, S', q1, q2, q3, q4⟩ := hrn
    exact ⟨⟨E, q2⟩, E, ph, S', q1, q2, q3, (same_of (F := fun i => F i ∧ i ≠ M) hb5 (fun i hi => hlt i hi.1)).trans q4⟩)
  obtain ⟨_, _, hb, _⟩ := h.blk
  have c1 : w.cell? ⟨M, 12, none⟩ = some (.bool false) := hb.cell rfl
  generalize hQ : RnA F M R n c (nextS S) V S (whB V) w = Q at *
  obtain ⟨n', hn2⟩ : ∃ n', nextS S = n' := ⟨_, rfl⟩
  rw [hn2] at NX REN FIN
  clear h hb hQ DL DS hlt hn2
  go_enter Tryz.func28, Tryz.ntmps28
  go_wp2_with fail
  refine NX.out.mono ?_
  rintro e w5 ⟨rfl, hb5⟩
  have HB5 := hide hb5
  clear NX hb5 c1
  go_wp2_with fail
  refine (REN.out w5 HB5.out).mono ?_
  intro e w6 hrn
  obtain ⟨⟨E, rfl⟩, hq⟩ := FIN.out w5 w6 e HB5.out hrn
  have HE := hide hq
  clear hrn hq FIN REN
  go_wp2
  first | exact HE.out | (go_ret; exact HE.out)

end Go.Proofs.YtcahlmneancapaaGreatDoor.Clep
