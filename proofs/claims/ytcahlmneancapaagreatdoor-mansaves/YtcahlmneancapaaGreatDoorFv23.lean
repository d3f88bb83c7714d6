/- What renew of a Manifest does when called (a walk over the translated program). Disks of up to 60 files of a manifest, numbers from 1 to 99. -/
import Derived.Test.YtcahlmneancapaaGreatDoorFv18
import Derived.Test.YtcahlmneancapaaGreatDoorFv21
import Derived.Test.YtcahlmneancapaaGreatDoorFv22
import Derived.RegionTactic
import Derived.BigRegion
import Derived.Test.YtcahlmneancapaaGreatDoorFv17
import Derived.Test.YtcahlmneancapaaGreatDoorFv13
import Derived.Deep.RegionLaw
namespace Go.Proofs.YtcahlmneancapaaGreatDoor.Clep
open Go.RowKit Go.Maps Go.Sort
set_option linter.unusedVariables false
set_option maxRecDepth 10000

/-- The bytes of the Edit that makes V of nothing. -/
def whB (V : Vw) : List Int := fr 6 (ebd (wholeE V))
theorem whole_may {V : Vw} (h : vok V = true) (hu : 0 ≤ V.fl ∧ 0 ≤ V.ct ∧ 0 ≤ V.at9 ∧ 0 ≤ V.ls) : Eg (wholeE V) := by
  obtain ⟨h1, h2, h3⟩ := vok_parts2 h
  refine ⟨?_, hu⟩
  unfold vwH at h1
  have h1 := of_decide_eq_true h1
  unfold emay
  have e1 : edH (wholeE V) = true := by
    unfold edH wholeE
    simp only [List.length_nil]
    exact decide_eq_true ⟨by omega, by omega, by omega, by omega, by omega, by omega, by omega, by omega⟩
  have e2 : ((wholeE V).d.all okN && (wholeE V).a.all Fi.ok) = true := by
    unfold wholeE
    simp only [List.all_nil, Bool.true_and]
    exact h2
  rw [e1, e2]
  rfl
theorem whB_facts {V : Vw} (h : Eg (wholeE V)) : ByteL (whB V) ∧ (whB V).length ≤ 1312 := by
  have hE : ∀ E ∈ [wholeE V], Eg E := fun E hE => by rw [List.mem_singleton.1 hE]; exact h
  have h1 := el_range [wholeE V] hE
  have h2 := el_len [wholeE V] hE
  rw [el_one] at h1 h2
  exact ⟨h1, h2⟩
theorem ren_f1 {S Sa : St} {n E1 : Nat} {W Z : List Int} (e1 : layS S (mnm n) W = (E1, Sa)) (n1 : E1 ≠ 0) : renewS S n W Z = (E1, 0, Sa) := by
  unfold renewS preS
  rw [e1]
  simp [n1]
theorem ren_f2 {S Sa Sb : St} {n E2 : Nat} {W Z : List Int} (e1 : layS S (mnm n) W = (0, Sa)) (e2 : prepS Sa Z = (E2, Sb)) (n2 : E2 ≠ 0) : renewS S n W Z = (E2, 0, Sb) := by
  unfold renewS preS
  rw [e1]
  simp [e2, n2]
theorem ren_f3 {S Sa Sb Sc : St} {n E3 : Nat} {W Z : List Int} (e1 : layS S (mnm n) W = (0, Sa)) (e2 : prepS Sa Z = (0, Sb)) (e3 : renS Sb nFrs nCur = (E3, Sc)) (n3 : E3 ≠ 0) : renewS S n W Z = (E3, 0, Sc) := by
  unfold renewS preS
  rw [e1]
  simp [e2, e3, n3]
theorem ren_f4 {S Sa Sb Sc Sd : St} {n E4 : Nat} {W Z : List Int} (e1 : layS S (mnm n) W = (0, Sa)) (e2 : prepS Sa Z = (0, Sb)) (e3 : renS Sb nFrs nCur = (0, Sc)) (e4 : syncDirS Sc = (E4, Sd)) (n4 : E4 ≠ 0) : renewS S n W Z = (E4, 1, Sd) := by
  unfold renewS preS
  rw [e1]
  simp [e2, e3, e4, n4]
theorem ren_ok {S Sa Sb Sc Sd : St} {n : Nat} {W Z : List Int} (e1 : layS S (mnm n) W = (0, Sa)) (e2 : prepS Sa Z = (0, Sb)) (e3 : renS Sb nFrs nCur = (0, Sc)) (e4 : syncDirS Sc = (0, Sd)) : preS S n W Z = (0, 2, Sd) ∧ renewS S n W Z = (0, 2, sweepL n (listS Sd) Sd) := by
  have h : preS S n W Z = (0, 2, Sd) := by
    unfold preS
    rw [e1]
    simp [e2, e3, e4]
  refine ⟨h, ?_⟩
  unfold renewS
  rw [h]
  simp [listS]
theorem whput_any (a : Option Addr) (c : Nat) (V : Vw) (w : World) (hE : Eg (wholeE V)) (h : Fs w a V.f.length c V.f) (hn : V.f.length ≤ 40) :
    Calls Tryz.prog 38 #[.slice none 0 0, edV none 0 0 a V.f.length c (wholeE V)] w fun e w' => ∃ v, e = .returned (.tuple #[v, .int .i64 0]) ∧ Own w' w.heap.size v (whB V) ∧ Below w.heap.size w w' := by
  refine (eput_any none 0 0 [] none 0 0 a V.f.length c (wholeE V) w (bs_nil w) (by decide) (zs_nil w) h (by decide) (by omega) hE.2).mono ?_
  rintro e w' ⟨h1, h2⟩
  rw [if_pos hE.1, List.nil_append] at h1
  obtain ⟨v, h3, h4⟩ := h1
  exact ⟨v, h3, h4, h2⟩
theorem nCur_sz : nCur.size ≤ 70368744177664 := by decide
/-- What is held against a Manifest's fields: the number and the count that a renewal sets. -/
theorem ma_set {F : Nat → Prop} {w : World} {M R n c : Nat} {V : Vw} {br : Bool} {S : St} (h : Ma F w M R n c V br S) (n' c' : Nat) :
    Ma F ((w.setCell ⟨M, 1, none⟩ (.int .i64 n')).setCell ⟨M, 2, none⟩ (.int .i64 c')) M R n' c' V br S ∧ Ch (fun i => i = M) w ((w.setCell ⟨M, 1, none⟩ (.int .i64 n')).setCell ⟨M, 2, none⟩ (.int .i64 c')) := by
  obtain ⟨a, fc, h1, h2, h3, h4⟩ := h.blk
  have c := (Ch.set (P := fun i => i = M) w ⟨M, 1, none⟩ (.int .i64 n') rfl).trans (Ch.set (P := fun i => i = M) _ ⟨M, 2, none⟩ (.int .i64 c') rfl)
  exact ⟨⟨⟨a, fc, (h1.set 1 _).set 2 _, h2.ch c (fun x hx => (h4 x hx).2), h3, h4⟩, (h.held.ch (c.mono (fun i _ e => by subst e; exact h.own))).less (fun i hi => .inl hi), h.own⟩, c⟩
/-- What a renewal leaves: n', 1 where current is the newer one; broken where the names do not last. -/
def RnA (F : Nat → Prop) (M R n c n' : Nat) (V : Vw) (S : St) (W : List Int) (w : World) (e : Ending) (w' : World) : Prop := ∃ E ph S', renewS S n' W (leB n') = (E, ph, S') ∧ e = .returned (.int .i64 (E : Nat)) ∧
  Ma F w' M R (if ph = 0 then n else n') (if ph = 0 then c else 1) V (decide (ph = 1)) S' ∧ Same (fun i => F i ∧ i ≠ M) w w'
set_option maxHeartbeats 4000000 in
theorem renew_any {F : Nat → Prop} {w : World} {M R n c T n' : Nat} {V : Vw} {S : St} (h : Ma F w M R n c V false S) (D : Dk S T) (hV : vok V = true) (hu : 0 ≤ V.fl ∧ 0 ≤ V.ct ∧ 0 ≤ V.at9 ∧ 0 ≤ V.ls) (hm : S.calls < 137438953472) (h1 : 1 ≤ n') (hn' : n' < 100)
    (DL : ∀ E1 S1, layS S (mnm n') (whB V) = (E1, S1) → ∃ T1, Dk S1 T1) (DS : ∀ S4, preS S n' (whB V) (leB n') = (0, 2, S4) → ∃ T4, Dk S4 T4) :
    Calls Tryz.prog 37 #[.pointer (some ⟨M, 0, none⟩), .int .i64 n'] w (RnA F M R n c n' V S (whB V) w) := by
  have HR := hide (show ∀ E ph S' w', renewS S n' (whB V) (leB n') = (E, ph, S') → Ma F w' M R (if ph = 0 then n else n') (if ph = 0 then c else 1) V (decide (ph = 1)) S' → Same (fun i => F i ∧ i ≠ M) w w' → RnA F M R n c n' V S (whB V) w (.returned (.int .i64 (E : Nat))) w' from fun E ph S' w' h1 h2 h3 => ⟨E, ph, S', h1, rfl, h2, h3⟩)
  generalize RnA F M R n c n' V S (whB V) w = Q at *
  obtain ⟨fa, fc, hb, hfs, hcap, hx⟩ := h.blk
  have hl40 : V.f.length ≤ 40 := (good_once (.inr hV)).2
  have WH := hide (whole_any fa V.f.length fc V w hfs (by omega))
  have HEg := hide (whole_may hV hu)
  have c0 : w.cell? ⟨M, 0, none⟩ = some (.pointer (some ⟨R, 0, none⟩)) := hb.cell rfl
  have c3 : w.cell? ⟨M, 3, none⟩ = some (.int .i64 V.lg) := hb.cell rfl
  have c4 : w.cell? ⟨M, 4, none⟩ = some (.slice fa V.f.length fc) := hb.cell rfl
  have c5 : w.cell? ⟨M, 5, none⟩ = some (.int .u64 V.fl) := hb.cell rfl
  have c6 : w.cell? ⟨M, 6, none⟩ = some (.int .u64 V.ct) := hb.cell rfl
  have c7 : w.cell? ⟨M, 7, none⟩ = some (.int .u64 V.at9) := hb.cell rfl
  have c8 : w.cell? ⟨M, 8, none⟩ = some (.int .u64 V.ls) := hb.cell rfl
  have HM := hide h
  have HDL := hide DL
  have HDS := hide DS
  clear h hb hfs hx DL DS hV hu
  unfold vwV at WH
  go_enter Tryz.func37, Tryz.ntmps37
  go_wp2_with fail
  refine WH.out.mono ?_
  rintro e w1 ⟨a, fc1, rfl, hc1, hf1, hb1⟩
  have PU := hide (whput_any a fc1 V w1 HEg.out hf1 hl40)
  have HB1 := hide hb1
  unfold edV wholeE at PU ⊢
  clear WH hf1 hb1 c3 c4 c5 c6 c7 c8
  go_wp2_with fail
  refine PU.out.mono ?_
  rintro e w2 ⟨v, rfl, ho, hb2⟩
  obtain ⟨hrg, hlen⟩ := whB_facts HEg.out
  obtain ⟨az, cz, rfl, -, hB, hbk⟩ := own_bs ho (range_of hrg)
  have hb12 := bmore HB1.out hb2
  have hsz1 := HB1.out.size
  obtain ⟨E1, Sa, e1⟩ : ∃ E1 Sa, layS S (mnm n') (whB V) = (E1, Sa) := ⟨_, _, rfl⟩
  have k1 := lay_calls S (mnm n') (whB V)
  rw [e1] at k1
  simp only at k1
  have M2 := HM.out.wide hb12
  have S2 := hide (same_of (F := F) hb12 (fun i hi => HM.out.held.lt hi))
  have hd : Below w2.heap.size w2 w2.drew := (Below.refl _ w2).drew
  have LY := hide (lay_h (mnm n') az (whB V).length cz (whB V) e1 (M2.held.same hd).1 (by omega) (by have := (mnm_okAll n' hn').2; omega) (hB.below hd (Nat.le_refl _)) (by omega) (fun _ b off hx => .inr ⟨by have := (hbk b off hx).1; omega, (hbk b off hx).2.1⟩))
  have NM := hide (name_man n' h1 hn' w2.drew)
  obtain ⟨a2, fc2, hbb, _⟩ := M2.blk
  have HK0 : w2.drew.cell? ⟨M, 0, none⟩ = some (.pointer (some ⟨R, 0, none⟩)) := (hbb.keep hd).cell rfl
  have HK2 := hide (show ∀ W, Same (fun i => F i ∨ w.heap.size ≤ i ∧ i < w2.heap.size) w2.drew W → W.cell? ⟨M, 0, none⟩ = some (.pointer (some ⟨R, 0, none⟩)) from fun W hW => ((hbb.keep hd).same hW M2.own).cell rfl)
  clear PU HB1 ho hB hbk hb12 hb2 hsz1 hbb hd M2 hrg c0
  generalize hWB : whB V = WB at *
  clear hWB
  generalize WB.length = NW at *
  unfold kMan at NM
  obtain ⟨Z, hZ⟩ : ∃ Z, mnm n' = Z := ⟨_, rfl⟩
  rw [hZ] at LY NM
  clear hZ
  go_wp2_with fail
  go_region_held_law (fun W => W.cell? ⟨M, 0, none⟩ = some (.pointer (some ⟨R, 0, none⟩)))
    (first | exact HK0 | exact HK2.out _ (by with_reducible assumption))
    (first | (go_at_call 23; refine NM.out.mono ?_; rintro e w3 ⟨rfl, rfl⟩) | (go_at_call 71; refine LY.out.mono ?_; rintro e w3 ⟨rfl, h3, s3⟩))
  have M3 := hide (HM.out.disk (h3.less (fun i hi => .inl hi)) (S2.out.trans ((same_drew F w2).trans (s3.mono (F' := F) (fun i hi => .inl hi)))))
  have S3 := hide (S2.out.trans ((same_drew F w2).trans (s3.mono (F' := F) (fun i hi => .inl hi))))
  clear LY NM h3 s3 S2 HK0 HK2
  by_cases n1 : E1 = 0
  case neg =>
    have hne : ¬ ((E1 : Int) = 0) := by omega
    have HE := hide (HR.out E1 0 Sa w3 (ren_f1 e1 n1) (by rw [if_pos rfl, if_pos rfl]; exact M3.out) (S3.out.mono (fun i hi => hi.1)))
    clear M3 S3 HR HDL HDS
    go_wp2
    first | exact HE.out | (go_ret; exact HE.out)
  subst n1
  obtain ⟨T1, D1⟩ := HDL.out 0 Sa e1
  obtain ⟨E2, Sb, e2⟩ : ∃ E2 Sb, prepS Sa (leB n') = (E2, Sb) := ⟨_, _, rfl⟩
  have k2 := prep_calls Sa (leB n')
  rw [e2] at k2
  simp only at k2
  have PR := hide (prep_any M3.out D1 (by omega) hn' e2)
  go_wp2_with fail
  refine PR.out.mono ?_
  rintro e w4 ⟨rfl, m4, s4⟩
  have M4 := hide m4
  have S4 := hide (S3.out.trans s4)
  clear PR m4 s4 M3 S3
  by_cases n2 : E2 = 0
  case neg =>
    have hne : ¬ ((E2 : Int) = 0) := by omega
    have HE := hide (HR.out E2 0 Sb w4 (ren_f2 e1 e2 n2) (by rw [if_pos rfl, if_pos rfl]; exact M4.out) (S4.out.mono (fun i hi => hi.1)))
    clear M4 S4 HR HDL HDS
    go_wp2
    first | exact HE.out | (go_ret; exact HE.out)
  subst n2
  obtain ⟨E3, Sc, e3⟩ : ∃ E3 Sc, renS Sb nFrs nCur = (E3, Sc) := ⟨_, _, rfl⟩
  have k3 := ren_calls Sb nFrs nCur
  rw [e3] at k3
  simp only at k3
  obtain ⟨a4, fc4, hb4, _⟩ := M4.out.blk
  have c4 : w4.cell? ⟨M, 0, none⟩ = some (.pointer (some ⟨R, 0, none⟩)) := hb4.cell rfl
  have RE := hide (rename_h nFrs nCur e3 M4.out.held (by omega) nFrs_sz nCur_sz)
  unfold nFrs nCur at RE
  clear hb4
  go_wp2_with fail
  refine RE.out.mono ?_
  rintro e w5 ⟨rfl, h5, s5⟩
  have M5 := hide (M4.out.disk h5 s5)
  have S5 := hide (S4.out.trans s5)
  clear RE h5 s5 M4 S4 c4
  by_cases n3 : E3 = 0
  case neg =>
    have hne : ¬ ((E3 : Int) = 0) := by omega
    have HE := hide (HR.out E3 0 Sc w5 (ren_f3 e1 e2 e3 n3) (by rw [if_pos rfl, if_pos rfl]; exact M5.out) (S5.out.mono (fun i hi => hi.1)))
    clear M5 S5 HR HDL HDS
    go_wp2
    first | exact HE.out | (go_ret; exact HE.out)
  subst n3
  obtain ⟨E4, Sd, e4⟩ : ∃ E4 Sd, syncDirS Sc = (E4, Sd) := ⟨_, _, rfl⟩
  have k4 := syncDir_calls Sc
  rw [e4] at k4
  simp only at k4
  obtain ⟨m6, ch6⟩ := ma_set M5.out n' 1
  have S6 := hide ((S5.out.mono (F' := fun i => F i ∧ i ≠ M) (fun i hi => hi.1)).trans (same_ch ch6 (fun i hi => ⟨M5.out.held.lt hi.1, hi.2⟩)))
  have M6 := hide m6
  have SD := hide (syncDir_h e4 m6.held (by omega))
  obtain ⟨a5, fc5, hb5, _⟩ := M5.out.blk
  obtain ⟨a6, fc6, hb6, _⟩ := m6.blk
  have c50 : w5.cell? ⟨M, 0, none⟩ = some (.pointer (some ⟨R, 0, none⟩)) := hb5.cell rfl
  have c51 : w5.cell? ⟨M, 1, none⟩ = some (.int .i64 n) := hb5.cell rfl
  have c52 : w5.cell? ⟨M, 2, none⟩ = some (.int .i64 c) := hb5.cell rfl
  have f51 := hb5.free 1
  have f52 := hb5.free 2
  clear hb5 hb6 m6 ch6 M5 S5
  go_wp2_with fail
  refine SD.out.mono ?_
  rintro e w7 ⟨rfl, h7, s7⟩
  have M7 := hide (M6.out.disk h7 s7)
  have S7 := hide (S6.out.trans (s7.mono (fun i hi => hi.1)))
  clear SD h7 s7 M6 S6 c50 c51 c52 f51 f52
  by_cases n4 : E4 = 0
  case neg =>
    have hne : ¬ ((E4 : Int) = 0) := by omega
    have BR := hide (breaks_any M7.out)
    have HF4 := hide (ren_f4 e1 e2 e3 e4 n4)
    go_wp2_with fail
    refine BR.out.mono ?_
    rintro e w8 ⟨rfl, m8, ch8⟩
    have HE := hide (HR.out E4 1 Sd w8 HF4.out (by rw [if_neg (by decide), if_neg (by decide)]; exact m8) (S7.out.trans (same_ch ch8 (fun i hi => ⟨M7.out.held.lt hi.1, hi.2⟩))))
    clear BR m8 ch8 M7 S7 HR HDL HDS
    go_wp2
    first | exact HE.out | (go_ret; exact HE.out)
  subst n4
  obtain ⟨p1, p2⟩ := ren_ok e1 e2 e3 e4
  obtain ⟨T4, D4⟩ := HDS.out Sd p1
  have SW := hide (sweep_any M7.out D4 (by omega))
  have P2 := hide p2
  clear p1 p2
  go_wp2_with fail
  refine SW.out.mono ?_
  rintro e w8 ⟨rfl, m8, s8⟩
  have HE := hide (HR.out 0 2 _ w8 P2.out (by rw [if_neg (by decide), if_neg (by decide)]; exact m8) (S7.out.trans (s8.mono (fun i hi => hi.1))))
  clear SW m8 s8 M7 S7 HR HDL HDS
  go_wp2
  first | exact HE.out | (go_ret; exact HE.out)

end Go.Proofs.YtcahlmneancapaaGreatDoor.Clep

/- What leads does when called (a walk over the translated program): for any bytes of at most 2^46. -/
namespace Go.Proofs.YtcahlmneancapaaGreatDoor.Clep
open Go.RowKit Go.Maps
set_option linter.unusedVariables false
set_option maxRecDepth 10000

/-- The number to which these bytes of current lead. -/
def ldP (X : List Int) : Option Nat := if ce X = 0 ∧ kd X = 8 ∧ 12 + ln X = (X.length : Int) ∧ (tk (bo X) 0 0).2.2 = 0 ∧ (tk (bo X) 0 0).2.1 = ((bo X).length : Int) ∧ ¬ (tk (bo X) 0 0).1 < 1 ∧ ¬ 1073741824 < (tk (bo X) 0 0).1 then some (tk (bo X) 0 0).1.toNat else none
/-- leads' answer. -/
def LdA (r : Option Nat) (w : World) (e : Ending) (w' : World) : Prop := e = .returned (.tuple #[.int .i64 (r.getD 0 : Nat), .bool r.isSome]) ∧ Below w.heap.size w w'
set_option maxHeartbeats 4000000 in
theorem leads_any (ao : Option Addr) (len cap : Nat) (zs : List Int) (w : World) (hm : len ≤ 1000000) (h : Bs w ao len cap zs) :
    Calls Tryz.prog 42 #[.slice ao len cap] w (LdA (ldP zs) w) := by
  have HNO := hide (show ∀ W, ldP zs = none → Below w.heap.size w W → LdA (ldP zs) w (.returned (.tuple #[.int .i64 0, .bool false])) W from fun W e hb => ⟨by rw [e]; rfl, hb⟩)
  have HYES := hide (show ∀ W (n : Nat), ldP zs = some n → Below w.heap.size w W → LdA (ldP zs) w (.returned (.tuple #[.int .i64 (n : Int), .bool true])) W from fun W n e hb => ⟨by rw [e]; rfl, hb⟩)
  generalize hQ : LdA (ldP zs) w = Q at *
  clear hQ
  have hl := h.1
  have HBR := hide (bs_range h)
  have HLD := hide (show ldP zs = if ce zs = 0 ∧ kd zs = 8 ∧ 12 + ln zs = (len : Int) ∧ (tk (bo zs) 0 0).2.2 = 0 ∧ (tk (bo zs) 0 0).2.1 = ((bo zs).length : Int) ∧ ¬ (tk (bo zs) 0 0).1 < 1 ∧ ¬ 1073741824 < (tk (bo zs) 0 0).1 then some (tk (bo zs) 0 0).1.toNat else none from by unfold ldP; rw [hl])
  by_cases hc : ce zs = 0
  case neg =>
    have C := hide (ftake_bad ao len cap zs 0 w (by omega) h (Nat.zero_le _) (by simpa using hc))
    rw [List.drop_zero] at C
    have hN := HNO.out
    have HE := hide (fun W => hN W (by rw [HLD.out, if_neg (fun h => hc h.1)]))
    have hne : ¬ (ce zs = 0) := hc
    generalize ce zs = E at *
    clear h HNO HYES HLD HBR hl hN hc
    go_enter Tryz.func42, Tryz.ntmps42
    go_wp2_with fail
    refine C.out.mono ?_
    rintro e w1 ⟨rfl, hb⟩
    have HF := hide (HE.out w1 hb)
    clear C hb HE
    go_wp2
    first | exact HF.out | (go_ret2; exact HF.out)
  have C := hide (ftake_good ao len cap zs 0 w (by omega) h (Nat.zero_le _) zs (by simp) hc)
  have hln := bo_len zs hc
  have hok := ce_ok zs hc
  have hbr : ByteL (bo zs) := fun z hz => by
    unfold bo bd at hz
    exact HBR.out z (List.mem_of_mem_take (List.mem_of_mem_drop (List.mem_of_mem_take hz)))
  have HTF := hide (tk_facts (bo zs) 0 0 (by decide) hbr (by decide) (by decide))
  have HBR2 := hide (range_of hbr)
  have hlp : (0 : Int) ≤ ln zs ∨ ln zs < 0 := by omega
  obtain ⟨K, hK⟩ : ∃ K, kd zs = K := ⟨_, rfl⟩
  obtain ⟨L, hL⟩ : ∃ L, ln zs = L := ⟨_, rfl⟩
  obtain ⟨⟨n3, s3, x3⟩, htk⟩ : ∃ t, tk (bo zs) 0 0 = t := ⟨_, rfl⟩
  obtain ⟨N, hN⟩ : ∃ N, (bo zs).length = N := ⟨_, rfl⟩
  have HTK := hide htk
  have hNl : N ≤ len := by
    have := ce_ok zs hc
    have h2 := bo_len zs hc
    omega
  rw [hK, hL, htk, hN] at HLD
  rw [hK, hL] at C
  simp only at HLD
  have HHN := hide hN
  have HNOT := hide (show ∀ W, ¬ (K = 8 ∧ 12 + L = (len : Int) ∧ x3 = 0 ∧ s3 = (N : Int) ∧ ¬ n3 < 1 ∧ ¬ 1073741824 < n3) → Below w.heap.size w W → Q (.returned (.tuple #[.int .i64 0, .bool false])) W from fun W hno hb => HNO.out W (by rw [HLD.out, if_neg (fun h => hno h.2)]) hb)
  have HYE := hide (show ∀ W, (K = 8 ∧ 12 + L = (len : Int) ∧ x3 = 0 ∧ s3 = (N : Int) ∧ ¬ n3 < 1 ∧ ¬ 1073741824 < n3) → Below w.heap.size w W → Q (.returned (.tuple #[.int .i64 n3, .bool true])) W from fun W hy hb => by
    have := HYES.out W n3.toNat (by rw [HLD.out, if_pos ⟨hc, hy⟩]) hb
    rw [show ((n3.toNat : Nat) : Int) = n3 by omega] at this
    exact this)
  clear h HNO HYES HLD HBR hl hlp hln hok hbr hc htk hK hL hN
  go_enter Tryz.func42, Tryz.ntmps42
  go_wp2_with fail
  refine C.out.mono ?_
  rintro e w1 ⟨v, rfl, ho, hb⟩
  obtain ⟨a, cv, rfl, hcv, hB, -⟩ := own_bs ho HBR2.out
  rw [HHN.out] at hB ⊢
  have HB := hide hb
  have TK := hide (take_any a N cv (bo zs) w1 (by omega) hB)
  unfold tup at TK
  rw [HTK.out] at TK
  simp only at TK
  clear C ho hb hB hcv
  by_cases hk : K = 8
  case neg =>
    have HE := hide (HNOT.out w1 (fun h => hk h.1) HB.out)
    clear HNOT HYE TK HTF
    go_wp2
    first | exact HE.out | (go_ret2; exact HE.out)
  subst hk
  by_cases hlen : 12 + L = (len : Int)
  case neg =>
    have HE := hide (HNOT.out w1 (fun h => hlen h.2.1) HB.out)
    clear HNOT HYE TK HTF
    go_wp2
    first | exact HE.out | (go_ret2; exact HE.out)
  go_wp2_with fail
  refine TK.out.mono ?_
  rintro e w2 ⟨rfl, rfl⟩
  clear TK
  by_cases hx : x3 = 0
  case neg =>
    have HE := hide (HNOT.out w2 (fun h => hx h.2.2.1) HB.out)
    clear HNOT HYE HTF
    go_wp2
    first | exact HE.out | (go_ret2; exact HE.out)
  subst hx
  by_cases hs : s3 = (N : Int)
  case neg =>
    have HE := hide (HNOT.out w2 (fun h => hs h.2.2.2.1) HB.out)
    clear HNOT HYE HTF
    go_wp2
    first | exact HE.out | (go_ret2; exact HE.out)
  subst hs
  by_cases hn1 : n3 < 1
  case pos =>
    have HE := hide (HNOT.out w2 (fun h => by have := h.2.2.2.2.1; omega) HB.out)
    clear HNOT HYE HTF
    go_wp2
    first | exact HE.out | (go_ret2; exact HE.out)
  by_cases hn2 : 1073741824 < n3
  case pos =>
    have HE := hide (HNOT.out w2 (fun h => by have := h.2.2.2.2.2; omega) HB.out)
    clear HNOT HYE HTF
    go_wp2
    first | exact HE.out | (go_ret2; exact HE.out)
  have HE := hide (HYE.out w2 (by simp [hlen]; omega) HB.out)
  have hwr : IntKind.i64.wrap n3 = n3 := by rw [IntKind.wrap_i64]; omega
  clear HNOT HYE HTF
  go_wp2
  first | exact HE.out | (go_ret2; exact HE.out)

end Go.Proofs.YtcahlmneancapaaGreatDoor.Clep

/- What edit.Read does when called (a walk over the translated program): for any bytes of at most a million. -/
namespace Go.Proofs.YtcahlmneancapaaGreatDoor.Clep
open Go.RowKit
set_option linter.unusedVariables false
set_option maxRecDepth 10000

section
attribute [local go_sem ↓] cut_l
set_option maxHeartbeats 4000000 in
theorem read_any (ao : Option Addr) (len cap : Nat) (zs : List Int) (w : World) (hm : len ≤ 1000000) (hcm : cap ≤ 9223372036854775807) (h : Bs w ao len cap zs) :
    Calls Tryz.prog 140 #[.slice ao len cap] w (RdA (red zs) w) := by
  have hzl := h.1
  have hbr := bs_range h
  have HB := hide h
  have HBR := hide (show ByteL zs from hbr)
  have HRF := hide (red_form zs)
  have HRN := hide (show red zs = none → ∀ W, Below w.heap.size w W → RdA (red zs) w (.returned (.tuple #[edV none 0 0 none 0 0 zE, .int .i64 3])) W from fun e W hW => by rw [e]; exact ⟨rfl, hW⟩)
  have HRS := hide (show ∀ E W da dc aa ac, red zs = some E → Zs W da E.d.length dc E.d → Fs W aa E.a.length ac E.a → Below w.heap.size w W → RdA (red zs) w (.returned (.tuple #[edV da E.d.length dc aa E.a.length ac E, .int .i64 0])) W from fun E W da dc aa ac e h1 h2 h3 => by rw [e]; exact ⟨⟨da, dc, aa, ac, rfl, h1, h2⟩, h3⟩)
  have HOK := hide (show okR zs = (decide ((ul zs 40).2.2 = 0) && (decide (cX zs ≤ 40) && (!(stN (s1X zs) (2 * (cX zs).toNat + 5)).2 && decide ((stN (s1X zs) (2 * (cX zs).toNat + 5)).1.length = 0)))) from rfl)
  have HUP := hide (ul_place zs 40)
  have HUN := hide (ul_nums zs 40 hbr (by omega))
  have HSM := hide (show smE (rawE zs) = ⟨(ul zs 40).1.map sm, (fX zs (cX zs).toNat).map smF, sm (nr (s1X zs) (2 * (cX zs).toNat)), nr (s1X zs) (2 * (cX zs).toNat + 1), nr (s1X zs) (2 * (cX zs).toNat + 2), nr (s1X zs) (2 * (cX zs).toNat + 3), nr (s1X zs) (2 * (cX zs).toNat + 4)⟩ from rfl)
  have CU := hide (fun W (hW : Below w.heap.size w W) => unlist_any ao len cap zs 40 W (by omega) hcm (h.below hW (Nat.le_refl _)) (by omega) (by omega) (ul zs 40) (hide rfl))
  have HS0 := hide (show s0X zs = (zs.drop (ul zs 40).2.1.toNat, false) from rfl)
  generalize RdA (red zs) w = RR at *
  obtain ⟨d0, sz, er, hu⟩ : ∃ d sz er, ul zs 40 = (d, sz, er) := ⟨_, _, _, rfl⟩
  rw [hu] at HOK HUP HUN HSM CU HS0
  simp only at HOK HUP HUN HSM CU HS0
  unfold edV zE at HRN
  unfold edV at HRS
  simp only at HRN
  clear h hbr hu
  have A0 := (Below.refl w.heap.size w).alloc (Nat.le_refl _) (Obj.cells #[.slice none 0 0, .slice none 0 0, .int .i64 0, .int .u64 0, .int .u64 0, .int .u64 0, .int .u64 0] 34)
  have HB0 := hide A0
  have HZ0 := hide (ek_new w #[.slice none 0 0, .slice none 0 0, .int .i64 0, .int .u64 0, .int .u64 0, .int .u64 0, .int .u64 0] 34)
  have HSA := hide (show (w.alloc (Obj.cells #[.slice none 0 0, .slice none 0 0, .int .i64 0, .int .u64 0, .int .u64 0, .int .u64 0, .int .u64 0] 34)).heap.size = w.heap.size + 1 by simp)
  clear A0
  go_enter Tryz.func140, Tryz.ntmps140
  go_wp2_with fail
  refine (CU.out _ HB0.out).mono ?_
  rintro e w1 ⟨v1, rfl, ho1, hb1⟩
  have HZ1 := hide (HZ0.out.below hb1 HZ0.out.lt)
  have HB1 := hide (HB0.out.trans (hb1.mono HB0.out.size))
  have HO1 := hide ho1
  have hl1 : w.heap.size + 1 ≤ w1.heap.size := by rw [← HSA.out]; exact hb1.size
  clear CU ho1 hb1 HB0 HZ0 HSA
  by_cases her : er = 0
  · subst her
    have hup := HUP.out rfl
    have hun := HUN.out
    have hdl : (d0.length : Int) ≤ 40 := hun.2 rfl
    rw [show decide ((0 : Int) = 0) = true from rfl, Bool.true_and] at HOK
    obtain ⟨sn, rfl⟩ := Int.eq_ofNat_of_zero_le hup.1
    simp only [Int.toNat_natCast] at HS0
    have hsn : (sn : Int) ≤ (len : Int) := by omega
    have hs0n : (0 : Int) ≤ (sn : Int) := by omega
    have HBW := hide (HB.out.below HB1.out (Nat.le_refl _))
    have HRD := hide (show Rdr (w1.alloc (Obj.cells #[.slice (cut ao cap sn) (len - sn) (cap - sn), .bool false] 237)) w.heap.size w1.heap.size (s0X zs) from by
      have hcut := HBW.out.cut sn len (by omega) (Nat.le_refl _)
      rw [List.take_of_length_le (by omega)] at hcut
      rw [HS0.out]
      refine ⟨_, _, _, ek_new w1 _ _, hcut.below ((Below.refl _ w1).alloc (Nat.le_refl _) _) (Nat.le_refl _), by omega, fun h0 a ha => ?_, by omega⟩
      obtain ⟨b, off, e1, hc⟩ := HB.out.2.2.2 (by omega)
      refine ecut_block (fun x hx => ?_) a ha
      rw [e1] at hx
      cases hx
      exact World.block_lt_of_cell? w _ (hc 0 (by omega)))
    have hA1 := (Below.refl _ w1).alloc (Nat.le_refl _) (Obj.cells #[.slice (cut ao cap sn) (len - sn) (cap - sn), .bool false] 237)
    have CS := hide (smalls_any v1 d0 _ _ (ownU_below HO1.out hA1) hun.1 (by omega))
    have HA1 := hide hA1
    have HSB := hide (show (w1.alloc (Obj.cells #[.slice (cut ao cap sn) (len - sn) (cap - sn), .bool false] 237)).heap.size = w1.heap.size + 1 by simp)
    have HDR := hide (show ∀ z ∈ d0.map sm, -9223372036854775808 ≤ z ∧ z ≤ 9223372036854775807 from fun z hz => by
      obtain ⟨y, hy, rfl⟩ := List.mem_map.1 hz
      have := sm_range (hun.1 y hy).1
      omega)
    clear HUP HUN hun hA1
    go_wp2_with fail
    refine CS.out.mono ?_
    rintro e w2 ⟨v2, rfl, ho2, hb2⟩
    obtain ⟨dd, dc, hv2, hdc, hzs2, hzb2⟩ := ownZ_zs ho2 HDR.out
    obtain ⟨dn, hdn⟩ : ∃ dn, (d0.map sm).length = dn := ⟨_, rfl⟩
    have HDN := hide hdn
    rw [hdn] at hv2 hzs2
    subst hv2
    have HB2 := hide ((HB1.out.trans (HA1.out.mono HB1.out.size)).trans (hb2.mono (by rw [HSB.out]; omega)))
    have hA2 := (Below.refl _ w2).alloc (Nat.le_refl _) (Obj.cells #[.slice dd dn dc, .slice none 0 0, .int .i64 0, .int .u64 0, .int .u64 0, .int .u64 0, .int .u64 0] 34)
    have hs2 : w1.heap.size + 1 ≤ w2.heap.size := by rw [← HSB.out]; exact hb2.size
    have ST := hide (show RS w w1.heap.size w2.heap.size dd dn dc (d0.map sm) (w2.alloc (Obj.cells #[.slice dd dn dc, .slice none 0 0, .int .i64 0, .int .u64 0, .int .u64 0, .int .u64 0, .int .u64 0] 34)) (s0X zs) #[.slice dd dn dc, .slice none 0 0, .int .i64 0, .int .u64 0, .int .u64 0, .int .u64 0, .int .u64 0] (.slice none 0 0) [] from
      ⟨(HRD.out.keep hb2).keep hA2, ek_new w2 _ _, ownF_nil _ _, hzs2.below hA2 (Nat.le_refl _), fun a ha => (by
        have h1 := World.ownsRow.lt ho2 a.block (by rw [ha]; rfl)
        rw [HSB.out] at h1
        omega), ((HZ1.out.below HA1.out HZ1.out.lt).below hb2 (Nat.lt_of_lt_of_le HZ1.out.lt HA1.out.size)).below hA2 (by omega), HB2.out.trans (hA2.mono HB2.out.size), by simp, by omega⟩)
    have CT := hide (rdtake_any w.heap.size w1.heap.size (s0X zs) _ ST.out.rd (by rw [HS0.out]; simp; omega))
    have hRQ : w1.heap.size < w2.heap.size := by omega
    clear CS ho2 hb2 hzs2 hzb2 hA2 HA1 HRD HBW HZ1 HO1 hdn
    go_wp2_with fail
    refine CT.out.mono ?_
    rintro e w3 ⟨rfl, hrd3, hg3⟩
    have ST3 := hide (ST.out.take hg3 hrd3)
    clear CT hrd3 hg3 ST
    have hcr := (rt_range (s0X zs) (by rw [HS0.out]; exact fun z hz => HBR.out z (List.mem_of_mem_drop hz))).1
    have HB3 := hide (show ByteL (s1X zs).1 from (rt_range (s0X zs) (by rw [HS0.out]; exact fun z hz => HBR.out z (List.mem_of_mem_drop hz))).2)
    have HL3 := hide (show (s1X zs).1.length ≤ 1000000 from Nat.le_trans (rt_len (s0X zs)) (by rw [HS0.out]; simp; omega))
    have HCX := hide (show (rt (s0X zs)).1 = cX zs from rfl)
    have HS1 := hide (show (rt (s0X zs)).2 = s1X zs from rfl)
    rw [HS1.out] at ST3
    rw [HCX.out] at hcr
    rw [HCX.out]
    clear HCX HS1 HS0
    have HFX := hide (show ∀ n, fX zs (n + 1) = fX zs n ++ [⟨nr (s1X zs) (2 * n), nr (s1X zs) (2 * n + 1)⟩] from fX_next zs)
    have HFW := hide (show ∀ n, ∀ x ∈ (fX zs n).map smF, x.wf from fun n x hx => by
      obtain ⟨f, hf, rfl⟩ := List.mem_map.1 hx
      obtain ⟨k, hk, rfl⟩ := List.mem_map.1 hf
      have h1 := sm_range (nr_range (s1X zs) HB3.out (2 * k)).1
      have h2 := sm_range (nr_range (s1X zs) HB3.out (2 * k + 1)).1
      unfold smF Fi.wf
      simp only
      omega)
    generalize s1X zs = s1 at *
    generalize hRR : w1.heap.size = R at *
    generalize hQQ : w2.heap.size = Q at *
    clear hRR hQQ
    obtain ⟨c, hc⟩ := Int.eq_ofNat_of_zero_le hcr.1
    have HC := hide hc
    rw [hc] at HOK HSM hcr
    simp only [Int.toNat_natCast] at HOK HSM
    rw [hc]
    by_cases hc40 : (c : Int) ≤ 40
    · have hcg : ¬ ((40 : Int) < (c : Int)) := by omega
      rw [show decide ((c : Int) ≤ 40) = true from decide_eq_true hc40, Bool.true_and] at HOK
      have HTK := hide (show ∀ (W : World) (s : List Int × Bool), Rdr W w.heap.size R s → s.1.length ≤ 1000000 → Calls Tryz.prog 176 #[.pointer (some ⟨R, 0, none⟩)] W fun e w' => e = .returned (.int .u64 (rt s).1) ∧ Rdr w' w.heap.size R (rt s).2 ∧ W.grownBy w' (some R) from fun W s h1 h2 => rdtake_any w.heap.size R s W h1 h2)
      have HLL := hide (show ∀ j, (stN s1 j).1.length ≤ 1000000 from fun j => Nat.le_trans (stN_len s1 j) HL3.out)
      have HNR := hide (fun j => nr_range s1 HB3.out j)
      clear hc
      go_wp2_with fail
      go_loopw [32] (fun s wr => ∃ i : Nat, i ≤ c ∧ s = .int .u64 i ∧ Hid (∃ a k, RS w R Q dd dn dc (d0.map sm) wr (stN s1 (2 * i)) #[.slice dd dn dc, .slice a i k, .int .i64 0, .int .u64 0, .int .u64 0, .int .u64 0, .int .u64 0] (.slice a i k) ((fX zs i).map smF))) (fun s _ => c - (intOf s).toNat)
      case atStart => exact ⟨0, by omega, rfl, hide ⟨none, 0, ST3.out⟩⟩
      case round =>
        obtain ⟨i, hi, rfl, hst⟩ := hrel
        obtain ⟨fa, fk, st⟩ := hst.out
        have S0 := hide st
        clear hst st ST3
        by_cases hlt : i < c
        · have C1 := hide (HTK.out wr _ S0.out.rd (HLL.out _))
          have hqi : (i : Int) < (c : Int) := by omega
          go_wp2_with fail
          refine C1.out.mono ?_
          rintro e w4 ⟨rfl, hrd4, hg4⟩
          have S4 := hide (S0.out.take hg4 hrd4)
          have HX1 := hide (show (rt (stN s1 (2 * i))).1 = nr s1 (2 * i) from rfl)
          have HX2 := hide (show (rt (stN s1 (2 * i))).2 = stN s1 (2 * i + 1) from rfl)
          rw [HX1.out]
          rw [HX2.out] at S4
          have C2 := hide (small_any (nr s1 (2 * i)) w4 (HNR.out _).1)
          clear C1 hrd4 hg4 S0 HX1 HX2
          go_wp2_with fail
          refine C2.out.mono ?_
          rintro e w5 ⟨rfl, hw5⟩
          subst hw5
          have C3 := hide (HTK.out w5.drew _ S4.out.drew.rd (HLL.out _))
          have q1 : w5.cell? ⟨Q, 1, none⟩ = some (.slice fa i fk) := S4.out.q.cell rfl
          have hQl : Q < w5.heap.size := S4.out.q.lt
          obtain ⟨lv, hlv⟩ : ∃ lv, sm (nr s1 (2 * i)) = lv := ⟨_, rfl⟩
          have HLV := hide hlv
          rw [hlv]
          obtain ⟨nm, hnm⟩ : ∃ nm, sm (nr s1 (2 * i + 1)) = nm := ⟨_, rfl⟩
          have HNM := hide hnm
          have HFN := hide (show (fX zs i).map smF ++ [⟨lv, nm⟩] = (fX zs (i + 1)).map smF from by rw [HFX.out, List.map_append, ← hlv, ← hnm]; rfl)
          have hl0 := sm_range (HNR.out (2 * i)).1
          have hl1' := sm_range (HNR.out (2 * i + 1)).1
          have HWF := hide (show Fi.wf ⟨lv, nm⟩ from by rw [← hlv, ← hnm]; unfold Fi.wf; simp only; omega)
          have HLE := hide (show ((fX zs i).map smF).length + 1 ≤ 3518437208883 from by rw [List.length_map, fX_len]; omega)
          have HL8 := hide (show ((fX zs (i + 1)).map smF).length = i + 1 from by rw [List.length_map, fX_len])
          have HWF8 := hide (show ∀ x ∈ (fX zs (i + 1)).map smF, x.wf from HFW.out (i + 1))
          clear C2 hlv hnm hl0 hl1'
          go_wp2_with fail
          go_region_law (first
            | (refine step_append_files rfl (.tmp 37) (.tmp 42) rfl (Q + 1) _ ((fX zs i).map smF) (by first | rfl | simp [Act.eval, Act.put]) HO7.out (some ⟨w7.heap.size, 0, none⟩) 1 1 [⟨lv, nm⟩] (by first | rfl | simp [Act.eval, Act.put]) HF7.out HLE.out HSZ7.out ?_; intro v8 w8 o8 g8 k8; have S8 := hide (S7.out.row g8 k8 o8); have o9 : OwnF w8 (Q + 1) v8 ((fX zs (i + 1)).map smF) := (HFN.out ▸ o8); obtain ⟨a8, c8, hv8, _, _, _⟩ := ownF_fs o9 HWF8.out; rw [HL8.out] at hv8; subst hv8; have q8 : w8.cell? ⟨Q, 1, none⟩ = some (.slice fa i fk) := S8.out.q.cell rfl; have f8 := S8.out.q.free 1; clear o8 g8 k8)
            | (go_simp; refine C3.out.mono ?_; rintro e w6 ⟨rfl, hrd6, hg6⟩; have S6 := hide (S4.out.drew.take hg6 hrd6); have C4 := hide (small_any _ w6 (HNR.out (2 * i + 1)).1); have q6 : w6.cell? ⟨Q, 1, none⟩ = some (.slice fa i fk) := S6.out.q.cell rfl; have hQ6 : Q < w6.heap.size := S6.out.q.lt; clear hrd6 hg6)
            | (go_simp; refine C4.out.mono ?_; rintro e w7 ⟨rfl, hw7⟩; subst hw7; rw [HNM.out]; have S7 := hide (S6.out.keep ((Below.refl _ w7).alloc (Nat.le_refl _) (Obj.cells #[.int .i64 lv, .int .i64 nm] 99))); have HO7 := hide S7.out.own; have HSZ7 := hide S7.out.sz; have HF7 := hide (fs_block HWF.out (fhpS w7 (Obj.cells #[.int .i64 lv, .int .i64 nm] 99) _ rfl))))
          all_goals
            clear q1 q6 C3 C4
            go_wp2
            go_roundw
            case rel => exact ⟨i + 1, by omega, by go_num, hide ⟨a8, c8, by have := S8.out.setq 1 (.slice a8 (i + 1) c8); rw [HFN.out] at this; exact this⟩⟩
            case measure => simp [intOf]; omega
        · obtain rfl : i = c := by omega
          have hqi : ¬ ((i : Int) < (i : Int)) := by omega
          have C0 := hide (HTK.out wr _ S0.out.rd (HLL.out _))
          go_wp2_with fail
          refine C0.out.mono ?_
          rintro e x1 ⟨rfl, hrd, hg⟩
          have T1 := hide (show RS w R Q dd dn dc (d0.map sm) x1 (stN s1 (2 * i + 1)) _ _ _ from S0.out.take hg hrd)
          rw [show (rt (stN s1 (2 * i))).1 = nr s1 (2 * i) from rfl]
          clear hrd hg C0 S0
          have q1 : x1.cell? ⟨Q, 2, none⟩ = some (.int .i64 0) := T1.out.q.cell rfl
          have f1 := T1.out.q.free 2
          have CS0 := hide (small_any (nr s1 (2 * i)) x1 (HNR.out _).1)
          go_wp2_with fail
          refine CS0.out.mono ?_
          rintro e x1b ⟨rfl, hx⟩
          subst hx
          clear CS0
          have S1 := hide (T1.out.setq 2 (.int .i64 (sm (nr s1 (2 * i)))))
          have C1 := hide (HTK.out _ _ S1.out.rd (HLL.out _))
          clear T1
          go_wp2_with fail
          refine C1.out.mono ?_
          rintro e x2 ⟨rfl, hrd, hg⟩
          have T2 := hide (show RS w R Q dd dn dc (d0.map sm) x2 (stN s1 (2 * i + 2)) _ _ _ from S1.out.take hg hrd)
          rw [show (rt (stN s1 (2 * i + 1))).1 = nr s1 (2 * i + 1) from rfl]
          clear hrd hg C1 S1
          have q2 : x2.cell? ⟨Q, 3, none⟩ = some (.int .u64 0) := T2.out.q.cell rfl
          have f2 := T2.out.q.free 3
          have S2 := hide (T2.out.setq 3 (.int .u64 (nr s1 (2 * i + 1))))
          have C2 := hide (HTK.out _ _ S2.out.rd (HLL.out _))
          clear T2
          go_wp2_with fail
          refine C2.out.mono ?_
          rintro e x3 ⟨rfl, hrd, hg⟩
          have T3 := hide (show RS w R Q dd dn dc (d0.map sm) x3 (stN s1 (2 * i + 3)) _ _ _ from S2.out.take hg hrd)
          rw [show (rt (stN s1 (2 * i + 2))).1 = nr s1 (2 * i + 2) from rfl]
          clear hrd hg C2 S2
          have q3 : x3.cell? ⟨Q, 4, none⟩ = some (.int .u64 0) := T3.out.q.cell rfl
          have f3 := T3.out.q.free 4
          have S3 := hide (T3.out.setq 4 (.int .u64 (nr s1 (2 * i + 2))))
          have C3 := hide (HTK.out _ _ S3.out.rd (HLL.out _))
          clear T3
          go_wp2_with fail
          refine C3.out.mono ?_
          rintro e x4 ⟨rfl, hrd, hg⟩
          have T4 := hide (show RS w R Q dd dn dc (d0.map sm) x4 (stN s1 (2 * i + 4)) _ _ _ from S3.out.take hg hrd)
          rw [show (rt (stN s1 (2 * i + 3))).1 = nr s1 (2 * i + 3) from rfl]
          clear hrd hg C3 S3
          have q4 : x4.cell? ⟨Q, 5, none⟩ = some (.int .u64 0) := T4.out.q.cell rfl
          have f4 := T4.out.q.free 5
          have S4 := hide (T4.out.setq 5 (.int .u64 (nr s1 (2 * i + 3))))
          have C4 := hide (HTK.out _ _ S4.out.rd (HLL.out _))
          clear T4
          go_wp2_with fail
          refine C4.out.mono ?_
          rintro e x5 ⟨rfl, hrd, hg⟩
          have T5 := hide (show RS w R Q dd dn dc (d0.map sm) x5 (stN s1 (2 * i + 5)) _ _ _ from S4.out.take hg hrd)
          rw [show (rt (stN s1 (2 * i + 4))).1 = nr s1 (2 * i + 4) from rfl]
          clear hrd hg C4 S4
          have q5 : x5.cell? ⟨Q, 6, none⟩ = some (.int .u64 0) := T5.out.q.cell rfl
          have f5 := T5.out.q.free 6
          have S5 := hide (T5.out.setq 6 (.int .u64 (nr s1 (2 * i + 4))))
          have SF := hide (show RS w R Q dd dn dc (d0.map sm) (x5.setCell ⟨Q, 6, none⟩ (.int .u64 (nr s1 (2 * i + 4)))) (stN s1 (2 * i + 5)) #[.slice dd dn dc, .slice fa i fk, .int .i64 (sm (nr s1 (2 * i))), .int .u64 (nr s1 (2 * i + 1)), .int .u64 (nr s1 (2 * i + 2)), .int .u64 (nr s1 (2 * i + 3)), .int .u64 (nr s1 (2 * i + 4))] (.slice fa i fk) ((fX zs i).map smF) from S5.out)
          clear T5 S5
          obtain ⟨la, ln, lc, hekR, hbsR, hlc, _, _⟩ := SF.out.rd
          have hlnl := hbsR.1
          obtain ⟨rf, hrf⟩ : ∃ rf, (stN s1 (2 * i + 5)).2 = rf := ⟨_, rfl⟩
          rw [hrf] at HOK hekR
          simp only [hlnl] at HOK
          have HEKR := hide hekR
          have HZF := hide SF.out.z
          have HBF := hide SF.out.bel
          clear hbsR hekR hrf hlc HTK HLL q1 f1 q2 f2 q3 f3 q4 f4
          have r1 : (x5.setCell ⟨Q, 6, none⟩ (.int .u64 (nr s1 (2 * i + 4)))).cell? ⟨R, 1, none⟩ = some (.bool rf) := HEKR.out.cell rfl
          have r0 : (x5.setCell ⟨Q, 6, none⟩ (.int .u64 (nr s1 (2 * i + 4)))).cell? ⟨R, 0, none⟩ = some (.slice la ln lc) := HEKR.out.cell rfl
          have z0 : (x5.setCell ⟨Q, 6, none⟩ (.int .u64 (nr s1 (2 * i + 4)))).cell? ⟨w.heap.size, 0, none⟩ = some (.slice none 0 0) := (HZF.out).cell rfl
          have y0 : (x5.setCell ⟨Q, 6, none⟩ (.int .u64 (nr s1 (2 * i + 4)))).frozen? ⟨w.heap.size, 0, none⟩ = false := (HZF.out).free 0
          have z1 : (x5.setCell ⟨Q, 6, none⟩ (.int .u64 (nr s1 (2 * i + 4)))).cell? ⟨w.heap.size, 1, none⟩ = some (.slice none 0 0) := (HZF.out).cell rfl
          have y1 : (x5.setCell ⟨Q, 6, none⟩ (.int .u64 (nr s1 (2 * i + 4)))).frozen? ⟨w.heap.size, 1, none⟩ = false := (HZF.out).free 1
          have z2 : (x5.setCell ⟨Q, 6, none⟩ (.int .u64 (nr s1 (2 * i + 4)))).cell? ⟨w.heap.size, 2, none⟩ = some (.int .i64 0) := (HZF.out).cell rfl
          have y2 : (x5.setCell ⟨Q, 6, none⟩ (.int .u64 (nr s1 (2 * i + 4)))).frozen? ⟨w.heap.size, 2, none⟩ = false := (HZF.out).free 2
          have z3 : (x5.setCell ⟨Q, 6, none⟩ (.int .u64 (nr s1 (2 * i + 4)))).cell? ⟨w.heap.size, 3, none⟩ = some (.int .u64 0) := (HZF.out).cell rfl
          have y3 : (x5.setCell ⟨Q, 6, none⟩ (.int .u64 (nr s1 (2 * i + 4)))).frozen? ⟨w.heap.size, 3, none⟩ = false := (HZF.out).free 3
          have z4 : (x5.setCell ⟨Q, 6, none⟩ (.int .u64 (nr s1 (2 * i + 4)))).cell? ⟨w.heap.size, 4, none⟩ = some (.int .u64 0) := (HZF.out).cell rfl
          have y4 : (x5.setCell ⟨Q, 6, none⟩ (.int .u64 (nr s1 (2 * i + 4)))).frozen? ⟨w.heap.size, 4, none⟩ = false := (HZF.out).free 4
          have z5 : (x5.setCell ⟨Q, 6, none⟩ (.int .u64 (nr s1 (2 * i + 4)))).cell? ⟨w.heap.size, 5, none⟩ = some (.int .u64 0) := (HZF.out).cell rfl
          have y5 : (x5.setCell ⟨Q, 6, none⟩ (.int .u64 (nr s1 (2 * i + 4)))).frozen? ⟨w.heap.size, 5, none⟩ = false := (HZF.out).free 5
          have z6 : (x5.setCell ⟨Q, 6, none⟩ (.int .u64 (nr s1 (2 * i + 4)))).cell? ⟨w.heap.size, 6, none⟩ = some (.int .u64 0) := (HZF.out).cell rfl
          have y6 : (x5.setCell ⟨Q, 6, none⟩ (.int .u64 (nr s1 (2 * i + 4)))).frozen? ⟨w.heap.size, 6, none⟩ = false := (HZF.out).free 6
          have e0 : (x5.setCell ⟨Q, 6, none⟩ (.int .u64 (nr s1 (2 * i + 4)))).cell? ⟨Q, 0, none⟩ = some (.slice dd dn dc) := SF.out.q.cell rfl
          have e1 : (x5.setCell ⟨Q, 6, none⟩ (.int .u64 (nr s1 (2 * i + 4)))).cell? ⟨Q, 1, none⟩ = some (.slice fa i fk) := SF.out.q.cell rfl
          have e2 : (x5.setCell ⟨Q, 6, none⟩ (.int .u64 (nr s1 (2 * i + 4)))).cell? ⟨Q, 2, none⟩ = some (.int .i64 (sm (nr s1 (2 * i)))) := SF.out.q.cell rfl
          have e3 : (x5.setCell ⟨Q, 6, none⟩ (.int .u64 (nr s1 (2 * i + 4)))).cell? ⟨Q, 3, none⟩ = some (.int .u64 (nr s1 (2 * i + 1))) := SF.out.q.cell rfl
          have e4 : (x5.setCell ⟨Q, 6, none⟩ (.int .u64 (nr s1 (2 * i + 4)))).cell? ⟨Q, 4, none⟩ = some (.int .u64 (nr s1 (2 * i + 2))) := SF.out.q.cell rfl
          have e5 : (x5.setCell ⟨Q, 6, none⟩ (.int .u64 (nr s1 (2 * i + 4)))).cell? ⟨Q, 5, none⟩ = some (.int .u64 (nr s1 (2 * i + 3))) := SF.out.q.cell rfl
          have e6 : (x5.setCell ⟨Q, 6, none⟩ (.int .u64 (nr s1 (2 * i + 4)))).cell? ⟨Q, 6, none⟩ = some (.int .u64 (nr s1 (2 * i + 4))) := SF.out.q.cell rfl
          have hQF := SF.out.q.lt
          have CM := hide (show ∀ x, x = (x5.setCell ⟨Q, 6, none⟩ (.int .u64 (nr s1 (2 * i + 4)))) → Calls Tryz.prog 76 #[.agg #[.slice dd dn dc, .slice fa i fk, .int .i64 (sm (nr s1 (2 * i))), .int .u64 (nr s1 (2 * i + 1)), .int .u64 (nr s1 (2 * i + 2)), .int .u64 (nr s1 (2 * i + 3)), .int .u64 (nr s1 (2 * i + 4))]] x fun e w' => e = .returned (.bool (mayB ⟨d0.map sm, (fX zs i).map smF, sm (nr s1 (2 * i)), nr s1 (2 * i + 1), nr s1 (2 * i + 2), nr s1 (2 * i + 3), nr s1 (2 * i + 4)⟩)) ∧ Below x.heap.size x w' from fun x hx => by
            subst hx
            have hfs := ownF_fsN SF.out.own (HFW.out i) (by rw [List.length_map, fX_len])
            exact maybe_any dd dn dc fa i fk ⟨d0.map sm, (fX zs i).map smF, sm (nr s1 (2 * i)), nr s1 (2 * i + 1), nr s1 (2 * i + 2), nr s1 (2 * i + 3), nr s1 (2 * i + 4)⟩ _ SF.out.zs hfs.2 (by have := HDN.out; rw [List.length_map] at this; omega) (by omega))
          have HOW := hide SF.out.own
          have HZS := hide SF.out.zs
          have HZB := hide SF.out.zb
          have HRQ := hide SF.out.rq
          have HQF := hide SF.out.q
          clear SF
          cases rf with
          | true =>
            have HN := hide (HRN.out (by rw [HRF.out, HOK.out]; rfl))
            clear HRF HOK HSM HRN HRS CM HOW HZS HZB HFX HFW HNR
            go_wp2
            have HZ7 := eset7 (HZF.out) (.slice none 0 0) (.slice none 0 0) (.int .i64 0) (.int .u64 0) (.int .u64 0) (.int .u64 0) (.int .u64 0)
            refine bodyPost_ret (read_results (e := 3) HZ7 _ rfl rfl) rfl ?_
            exact HN.out _ ((HBF.out).grown (gset7 _ w.heap.size _ _ _ _ _ _ _) (HBF.out).size (fun k hk => by have : w.heap.size = k := Option.some.inj hk; omega))
          | false =>
            by_cases hln : ln = 0
            · subst hln
              have hq0 : ¬ ((0 : Int) < ((0 : Nat) : Int)) := by omega
              go_wp2_with fail
              refine (CM.out _ rfl).mono ?_
              rintro e y ⟨rfl, hby⟩
              have HZY := hide (HZF.out.below hby HZF.out.lt)
              have HBY := hide (HBF.out.trans (hby.mono HBF.out.size))
              have HQY := hide (HQF.out.below hby HQF.out.lt)
              have HOY := hide (ownF_keep HOW.out hby)
              have HSY := hide (HZS.out.below hby (Nat.le_refl _))
              obtain ⟨om, hom⟩ : ∃ om, mayB ⟨d0.map sm, (fX zs i).map smF, sm (nr s1 (2 * i)), nr s1 (2 * i + 1), nr s1 (2 * i + 2), nr s1 (2 * i + 3), nr s1 (2 * i + 4)⟩ = om := ⟨_, rfl⟩
              have HOM := hide hom
              rw [hom]
              clear hom CM hby r0 r1 HEKR z0 z1 z2 z3 z4 z5 z6 y0 y1 y2 y3 y4 y5 y6 e0 e1 e2 e3 e4 e5 e6 hQF
              have z0 : y.cell? ⟨w.heap.size, 0, none⟩ = some (.slice none 0 0) := (HZY.out).cell rfl
              have y0 : y.frozen? ⟨w.heap.size, 0, none⟩ = false := (HZY.out).free 0
              have z1 : y.cell? ⟨w.heap.size, 1, none⟩ = some (.slice none 0 0) := (HZY.out).cell rfl
              have y1 : y.frozen? ⟨w.heap.size, 1, none⟩ = false := (HZY.out).free 1
              have z2 : y.cell? ⟨w.heap.size, 2, none⟩ = some (.int .i64 0) := (HZY.out).cell rfl
              have y2 : y.frozen? ⟨w.heap.size, 2, none⟩ = false := (HZY.out).free 2
              have z3 : y.cell? ⟨w.heap.size, 3, none⟩ = some (.int .u64 0) := (HZY.out).cell rfl
              have y3 : y.frozen? ⟨w.heap.size, 3, none⟩ = false := (HZY.out).free 3
              have z4 : y.cell? ⟨w.heap.size, 4, none⟩ = some (.int .u64 0) := (HZY.out).cell rfl
              have y4 : y.frozen? ⟨w.heap.size, 4, none⟩ = false := (HZY.out).free 4
              have z5 : y.cell? ⟨w.heap.size, 5, none⟩ = some (.int .u64 0) := (HZY.out).cell rfl
              have y5 : y.frozen? ⟨w.heap.size, 5, none⟩ = false := (HZY.out).free 5
              have z6 : y.cell? ⟨w.heap.size, 6, none⟩ = some (.int .u64 0) := (HZY.out).cell rfl
              have y6 : y.frozen? ⟨w.heap.size, 6, none⟩ = false := (HZY.out).free 6
              cases om with
              | false =>
                have HN := hide (HRN.out (by rw [HRF.out, HSM.out, HOM.out, Bool.and_false]; rfl))
                clear HRF HOK HSM HRN HRS
                go_wp2
                have HZ7 := eset7 (HZY.out) (.slice none 0 0) (.slice none 0 0) (.int .i64 0) (.int .u64 0) (.int .u64 0) (.int .u64 0) (.int .u64 0)
                refine bodyPost_ret (read_results (e := 3) HZ7 _ rfl rfl) rfl ?_
                exact HN.out _ ((HBY.out).grown (gset7 _ w.heap.size _ _ _ _ _ _ _) (HBY.out).size (fun k hk => by have : w.heap.size = k := Option.some.inj hk; omega))
              | true =>
                have hred : red zs = some ⟨d0.map sm, (fX zs i).map smF, sm (nr s1 (2 * i)), nr s1 (2 * i + 1), nr s1 (2 * i + 2), nr s1 (2 * i + 3), nr s1 (2 * i + 4)⟩ := by rw [HRF.out, HSM.out, HOK.out, HOM.out]; rfl
                have HRED := hide hred
                have e0 : y.cell? ⟨Q, 0, none⟩ = some (.slice dd dn dc) := HQY.out.cell rfl
                have e1 : y.cell? ⟨Q, 1, none⟩ = some (.slice fa i fk) := HQY.out.cell rfl
                have e2 : y.cell? ⟨Q, 2, none⟩ = some (.int .i64 (sm (nr s1 (2 * i)))) := HQY.out.cell rfl
                have e3 : y.cell? ⟨Q, 3, none⟩ = some (.int .u64 (nr s1 (2 * i + 1))) := HQY.out.cell rfl
                have e4 : y.cell? ⟨Q, 4, none⟩ = some (.int .u64 (nr s1 (2 * i + 2))) := HQY.out.cell rfl
                have e5 : y.cell? ⟨Q, 5, none⟩ = some (.int .u64 (nr s1 (2 * i + 3))) := HQY.out.cell rfl
                have e6 : y.cell? ⟨Q, 6, none⟩ = some (.int .u64 (nr s1 (2 * i + 4))) := HQY.out.cell rfl
                clear HRF HOK HSM HRN hred
                go_wp2
                have HZ7 := eset7 HZY.out (.slice dd dn dc) (.slice fa i fk) (.int .i64 (sm (nr s1 (2 * i)))) (.int .u64 (nr s1 (2 * i + 1))) (.int .u64 (nr s1 (2 * i + 2))) (.int .u64 (nr s1 (2 * i + 3))) (.int .u64 (nr s1 (2 * i + 4)))
                refine bodyPost_ret (read_results (e := 0) HZ7 _ rfl rfl) rfl ?_
                have hg := gset7 y w.heap.size (.slice dd dn dc) (.slice fa i fk) (.int .i64 (sm (nr s1 (2 * i)))) (.int .u64 (nr s1 (2 * i + 1))) (.int .u64 (nr s1 (2 * i + 2))) (.int .u64 (nr s1 (2 * i + 3))) (.int .u64 (nr s1 (2 * i + 4)))
                have hfl : ((fX zs i).map smF).length = i := by rw [List.length_map, fX_len]
                have hrq := HRQ.out
                have hres := HRS.out ⟨d0.map sm, (fX zs i).map smF, sm (nr s1 (2 * i)), nr s1 (2 * i + 1), nr s1 (2 * i + 2), nr s1 (2 * i + 3), nr s1 (2 * i + 4)⟩ _ dd dc fa fk HRED.out (by
                  show Zs _ dd (d0.map sm).length dc (d0.map sm)
                  rw [HDN.out]
                  exact HSY.out.gb hg (fun a ha e => by
                    have h1 : a.block = w.heap.size := Option.some.inj e
                    have := HZB.out a ha
                    omega)) (by
                  show Fs _ fa ((fX zs i).map smF).length fk ((fX zs i).map smF)
                  rw [hfl]
                  exact (ownF_fsN (ownF_grown HOY.out hg (fun k hk => by have : w.heap.size = k := Option.some.inj hk; omega)) (HFW.out i) hfl).2) (HBY.out.grown hg HBY.out.size (fun k hk => by have : w.heap.size = k := Option.some.inj hk; omega))
                simp only at hres
                rw [HDN.out, hfl] at hres
                exact hres
            · have hq0 : (0 : Int) < (ln : Int) := by omega
              have HN := hide (HRN.out (by rw [HRF.out, HOK.out, show decide (ln = 0) = false from decide_eq_false hln]; rfl))
              clear HRF HOK HSM HRN HRS CM HOW HZS HZB HFX HFW HNR hln
              go_wp2
              have HZ7 := eset7 (HZF.out) (.slice none 0 0) (.slice none 0 0) (.int .i64 0) (.int .u64 0) (.int .u64 0) (.int .u64 0) (.int .u64 0)
              refine bodyPost_ret (read_results (e := 3) HZ7 _ rfl rfl) rfl ?_
              exact HN.out _ ((HBF.out).grown (gset7 _ w.heap.size _ _ _ _ _ _ _) (HBF.out).size (fun k hk => by have : w.heap.size = k := Option.some.inj hk; omega))
    · have hcg : (40 : Int) < (c : Int) := by omega
      have HN := hide (HRN.out (by rw [HRF.out, HOK.out, show decide ((c : Int) ≤ 40) = false from decide_eq_false hc40]; rfl))
      have HZ3 := hide ST3.out.z
      have HB3' := hide ST3.out.bel
      have z0 : w3.cell? ⟨w.heap.size, 0, none⟩ = some (.slice none 0 0) := (HZ3.out).cell rfl
      have y0 : w3.frozen? ⟨w.heap.size, 0, none⟩ = false := (HZ3.out).free 0
      have z1 : w3.cell? ⟨w.heap.size, 1, none⟩ = some (.slice none 0 0) := (HZ3.out).cell rfl
      have y1 : w3.frozen? ⟨w.heap.size, 1, none⟩ = false := (HZ3.out).free 1
      have z2 : w3.cell? ⟨w.heap.size, 2, none⟩ = some (.int .i64 0) := (HZ3.out).cell rfl
      have y2 : w3.frozen? ⟨w.heap.size, 2, none⟩ = false := (HZ3.out).free 2
      have z3 : w3.cell? ⟨w.heap.size, 3, none⟩ = some (.int .u64 0) := (HZ3.out).cell rfl
      have y3 : w3.frozen? ⟨w.heap.size, 3, none⟩ = false := (HZ3.out).free 3
      have z4 : w3.cell? ⟨w.heap.size, 4, none⟩ = some (.int .u64 0) := (HZ3.out).cell rfl
      have y4 : w3.frozen? ⟨w.heap.size, 4, none⟩ = false := (HZ3.out).free 4
      have z5 : w3.cell? ⟨w.heap.size, 5, none⟩ = some (.int .u64 0) := (HZ3.out).cell rfl
      have y5 : w3.frozen? ⟨w.heap.size, 5, none⟩ = false := (HZ3.out).free 5
      have z6 : w3.cell? ⟨w.heap.size, 6, none⟩ = some (.int .u64 0) := (HZ3.out).cell rfl
      have y6 : w3.frozen? ⟨w.heap.size, 6, none⟩ = false := (HZ3.out).free 6
      clear HRF HOK HSM HRN HRS ST3 hc40
      go_wp2
      have HZ7 := eset7 (HZ3.out) (.slice none 0 0) (.slice none 0 0) (.int .i64 0) (.int .u64 0) (.int .u64 0) (.int .u64 0) (.int .u64 0)
      refine bodyPost_ret (read_results (e := 3) HZ7 _ rfl rfl) rfl ?_
      exact HN.out _ ((HB3'.out).grown (gset7 _ w.heap.size _ _ _ _ _ _ _) (HB3'.out).size (fun k hk => by have : w.heap.size = k := Option.some.inj hk; omega))
  · have HN := hide (HRN.out (by rw [HRF.out, HOK.out, show decide (er = 0) = false from decide_eq_false her]; rfl))
    have q : (er != 0) = true := by simpa using her
    have z0 : w1.cell? ⟨w.heap.size, 0, none⟩ = some (.slice none 0 0) := HZ1.out.cell rfl
    have y0 := HZ1.out.free 0
    have z1 : w1.cell? ⟨w.heap.size, 1, none⟩ = some (.slice none 0 0) := HZ1.out.cell rfl
    have y1 := HZ1.out.free 1
    have z2 : w1.cell? ⟨w.heap.size, 2, none⟩ = some (.int .i64 0) := HZ1.out.cell rfl
    have y2 := HZ1.out.free 2
    have z3 : w1.cell? ⟨w.heap.size, 3, none⟩ = some (.int .u64 0) := HZ1.out.cell rfl
    have y3 := HZ1.out.free 3
    have z4 : w1.cell? ⟨w.heap.size, 4, none⟩ = some (.int .u64 0) := HZ1.out.cell rfl
    have y4 := HZ1.out.free 4
    have z5 : w1.cell? ⟨w.heap.size, 5, none⟩ = some (.int .u64 0) := HZ1.out.cell rfl
    have y5 := HZ1.out.free 5
    have z6 : w1.cell? ⟨w.heap.size, 6, none⟩ = some (.int .u64 0) := HZ1.out.cell rfl
    have y6 := HZ1.out.free 6
    clear HRF HOK HUP HUN HSM HS0 HRN her
    have HRN := HN
    go_wp2
    have HZ7 := eset7 (HZ1.out) (.slice none 0 0) (.slice none 0 0) (.int .i64 0) (.int .u64 0) (.int .u64 0) (.int .u64 0) (.int .u64 0)
    refine bodyPost_ret (read_results (e := 3) HZ7 _ rfl rfl) rfl ?_
    exact HRN.out _ ((HB1.out).grown (gset7 _ w.heap.size _ _ _ _ _ _ _) (HB1.out).size (fun k hk => by have : w.heap.size = k := Option.some.inj hk; omega))
end

end Go.Proofs.YtcahlmneancapaaGreatDoor.Clep

/- What edit.changed does when called (a walk over the translated program): for any View that has no number twice, any bytes. Written by wip/tools/gen15replay.py. -/
namespace Go.Proofs.YtcahlmneancapaaGreatDoor.Clep
open Go.RowKit
set_option linter.unusedVariables false
set_option maxRecDepth 10000

theorem changed_results {w : World} {R : Nat} {A B C D E : Int} {v : Value} {b : Bool} (h : Ek w R #[.int .i64 A, v, .int .u64 B, .int .u64 C, .int .u64 D, .int .u64 E] 31) (ts : Array Value) (h2 : ts.getD 4 undef = .pointer (some ⟨R, 0, none⟩)) (h3 : ts.getD 5 undef = .bool b) :
    (results Tryz.f113 ts).run Tryz.prog w = .ok (.tuple #[.agg #[.int .i64 A, v, .int .u64 B, .int .u64 C, .int .u64 D, .int .u64 E], .bool b]) w := by
  have c0 := h.cell (o := 0) rfl
  have c1 := h.cell (o := 1) rfl
  have c2 := h.cell (o := 2) rfl
  have c3 := h.cell (o := 3) rfl
  have c4 := h.cell (o := 4) rfl
  have c5 := h.cell (o := 5) rfl
  rw [Array.getD_eq_getD_getElem?] at h2 h3
  simp [results, Tryz.results113, go_sem, c0, c1, c2, c3, c4, c5, h2, h3]
/-- A store of six cells. -/
def set6 (W : World) (R : Nat) (u0 u1 u2 u3 u4 u5 : Value) : World := (((((W.setCell ⟨R, 0, none⟩ u0).setCell ⟨R, 1, none⟩ u1).setCell ⟨R, 2, none⟩ u2).setCell ⟨R, 3, none⟩ u3).setCell ⟨R, 4, none⟩ u4).setCell ⟨R, 5, none⟩ u5
theorem gset6 (W : World) (R : Nat) (u0 u1 u2 u3 u4 u5 : Value) : W.grownBy (set6 W R u0 u1 u2 u3 u4 u5) (some R) :=
  egrow (k := 5) (u := u5) (egrow (k := 4) (u := u4) (egrow (k := 3) (u := u3) (egrow (k := 2) (u := u2) (egrow (k := 1) (u := u1) (fgb_set W ⟨R, 0, none⟩ u0)))))
theorem red_lens {X : List Int} {E : Ed} (h : red X = some E) : E.d.length ≤ 40 ∧ E.a.length ≤ 40 := (emay_parts (red_may h)).1

set_option maxHeartbeats 1000000 in
theorem changed_any (fa : Option Addr) (fn fc : Nat) (V : Vw) (ao : Option Addr) (len cap : Nat) (X : List Int) (w : World) (hv : Fs w fa fn fc V.f) (hfn : fn ≤ 1000) (hon : once V.f = true) (hb : Bs w ao len cap X) (hl : len ≤ 1000000) (hc : cap ≤ 9223372036854775807) :
    Calls Tryz.prog 113 #[vwV fa fn fc V, .slice ao len cap] w fun e w' => ApR (cgd V X) w e w' := by
  have HV := hide (fun W (hW : Below w.heap.size w W) => hv.below hW (Nat.le_refl _))
  have CR := hide (fun W (hW : Below w.heap.size w W) => read_any ao len cap X W hl hc (hb.below hW (Nat.le_refl _)))
  have CA := hide (fun E (he : red X = some E) W (hW : Below w.heap.size w W) da dc aa ac (h1 : Zs W da E.d.length dc E.d) (h2 : Fs W aa E.a.length ac E.a) => apply_any fa da aa fn fc E.d.length dc E.a.length ac V E W (HV.out W hW) h1 h2 hfn (by have := red_lens he; omega) (by have := red_lens he; omega) hon)
  have HCG := hide (show ∀ E, red X = some E → cgd V X = appl V E from fun E he => by unfold cgd; rw [he])
  have HCN := hide (show red X = none → cgd V X = none from fun he => by unfold cgd; rw [he])
  generalize cgd V X = r at *
  have A0 := (Below.refl w.heap.size w).alloc (Nat.le_refl _) (Obj.cells #[.int .i64 V.lg, .slice fa fn fc, .int .u64 V.fl, .int .u64 V.ct, .int .u64 V.at9, .int .u64 V.ls] 31)
  have A1 := (Below.refl _ (w.alloc (Obj.cells #[.int .i64 V.lg, .slice fa fn fc, .int .u64 V.fl, .int .u64 V.ct, .int .u64 V.at9, .int .u64 V.ls] 31))).alloc (Nat.le_refl _) (Obj.cells #[.int .i64 0, .slice none 0 0, .int .u64 0, .int .u64 0, .int .u64 0, .int .u64 0] 31)
  have k0 := (ek_new w #[.int .i64 V.lg, .slice fa fn fc, .int .u64 V.fl, .int .u64 V.ct, .int .u64 V.at9, .int .u64 V.ls] 31).below A1 (ek_new w _ _).lt
  have k1 := ek_new (w.alloc (Obj.cells #[.int .i64 V.lg, .slice fa fn fc, .int .u64 V.fl, .int .u64 V.ct, .int .u64 V.at9, .int .u64 V.ls] 31)) #[.int .i64 0, .slice none 0 0, .int .u64 0, .int .u64 0, .int .u64 0, .int .u64 0] 31
  have hsz : (w.alloc (Obj.cells #[.int .i64 V.lg, .slice fa fn fc, .int .u64 V.fl, .int .u64 V.ct, .int .u64 V.at9, .int .u64 V.ls] 31)).heap.size = w.heap.size + 1 := by simp
  rw [hsz] at k1
  have HB0 := hide (A0.trans (A1.mono (by simp)))
  have HSA := hide (show ((w.alloc (Obj.cells #[.int .i64 V.lg, .slice fa fn fc, .int .u64 V.fl, .int .u64 V.ct, .int .u64 V.at9, .int .u64 V.ls] 31)).alloc (Obj.cells #[.int .i64 0, .slice none 0 0, .int .u64 0, .int .u64 0, .int .u64 0, .int .u64 0] 31)).heap.size = w.heap.size + 2 by simp)
  have HK := hide (show ∀ W, Below (w.heap.size + 2) ((w.alloc (Obj.cells #[.int .i64 V.lg, .slice fa fn fc, .int .u64 V.fl, .int .u64 V.ct, .int .u64 V.at9, .int .u64 V.ls] 31)).alloc (Obj.cells #[.int .i64 0, .slice none 0 0, .int .u64 0, .int .u64 0, .int .u64 0, .int .u64 0] 31)) W → Ek W w.heap.size #[.int .i64 V.lg, .slice fa fn fc, .int .u64 V.fl, .int .u64 V.ct, .int .u64 V.at9, .int .u64 V.ls] 31 ∧ Ek W (w.heap.size + 1) #[.int .i64 0, .slice none 0 0, .int .u64 0, .int .u64 0, .int .u64 0, .int .u64 0] 31 from fun W hW => ⟨k0.below hW (by omega), k1.below hW (by omega)⟩)
  clear hv hb A0 A1 k0 k1 hsz hl hc hon
  unfold vwV
  unfold vwV at CA
  go_enter Tryz.func113, Tryz.ntmps113
  go_wp2_with fail
  generalize (w.alloc (Obj.cells #[.int .i64 V.lg, .slice fa fn fc, .int .u64 V.fl, .int .u64 V.ct, .int .u64 V.at9, .int .u64 V.ls] 31)).alloc (Obj.cells #[.int .i64 0, .slice none 0 0, .int .u64 0, .int .u64 0, .int .u64 0, .int .u64 0] 31) = wa at *
  refine (CR.out _ HB0.out).mono ?_
  rintro e w1 hr1
  obtain ⟨R, hR⟩ : ∃ R, red X = R := ⟨_, rfl⟩
  have hr2 := hr1
  rw [hR] at hr2
  clear hr1
  cases R with
  | none =>
    obtain ⟨rfl, hb1⟩ := hr2
    obtain rfl := HCN.out hR
    have A2 := (Below.refl _ w1).alloc (Nat.le_refl _) (Obj.cells #[.slice none 0 0, .slice none 0 0, .int .i64 0, .int .u64 0, .int .u64 0, .int .u64 0, .int .u64 0] 34)
    have hB2 := hb1.trans (A2.mono hb1.size)
    obtain ⟨k0, k1⟩ := HK.out _ (hB2.mono (by rw [HSA.out]; exact Nat.le_refl _))
    have HB2 := hide (HB0.out.trans (hB2.mono HB0.out.size))
    have HK1 := hide k1
    have c0 : (w1.alloc (Obj.cells #[.slice none 0 0, .slice none 0 0, .int .i64 0, .int .u64 0, .int .u64 0, .int .u64 0, .int .u64 0] 34)).cell? ⟨w.heap.size + 1, 0, none⟩ = some (.int .i64 0) := (k1).cell rfl
    have c1 : (w1.alloc (Obj.cells #[.slice none 0 0, .slice none 0 0, .int .i64 0, .int .u64 0, .int .u64 0, .int .u64 0, .int .u64 0] 34)).cell? ⟨w.heap.size + 1, 1, none⟩ = some (.slice none 0 0) := (k1).cell rfl
    have c2 : (w1.alloc (Obj.cells #[.slice none 0 0, .slice none 0 0, .int .i64 0, .int .u64 0, .int .u64 0, .int .u64 0, .int .u64 0] 34)).cell? ⟨w.heap.size + 1, 2, none⟩ = some (.int .u64 0) := (k1).cell rfl
    have c3 : (w1.alloc (Obj.cells #[.slice none 0 0, .slice none 0 0, .int .i64 0, .int .u64 0, .int .u64 0, .int .u64 0, .int .u64 0] 34)).cell? ⟨w.heap.size + 1, 3, none⟩ = some (.int .u64 0) := (k1).cell rfl
    have c4 : (w1.alloc (Obj.cells #[.slice none 0 0, .slice none 0 0, .int .i64 0, .int .u64 0, .int .u64 0, .int .u64 0, .int .u64 0] 34)).cell? ⟨w.heap.size + 1, 4, none⟩ = some (.int .u64 0) := (k1).cell rfl
    have c5 : (w1.alloc (Obj.cells #[.slice none 0 0, .slice none 0 0, .int .i64 0, .int .u64 0, .int .u64 0, .int .u64 0, .int .u64 0] 34)).cell? ⟨w.heap.size + 1, 5, none⟩ = some (.int .u64 0) := (k1).cell rfl
    have f0 : (w1.alloc (Obj.cells #[.slice none 0 0, .slice none 0 0, .int .i64 0, .int .u64 0, .int .u64 0, .int .u64 0, .int .u64 0] 34)).frozen? ⟨w.heap.size + 1, 0, none⟩ = false := (k1).free 0
    have f1 : (w1.alloc (Obj.cells #[.slice none 0 0, .slice none 0 0, .int .i64 0, .int .u64 0, .int .u64 0, .int .u64 0, .int .u64 0] 34)).frozen? ⟨w.heap.size + 1, 1, none⟩ = false := (k1).free 1
    have f2 : (w1.alloc (Obj.cells #[.slice none 0 0, .slice none 0 0, .int .i64 0, .int .u64 0, .int .u64 0, .int .u64 0, .int .u64 0] 34)).frozen? ⟨w.heap.size + 1, 2, none⟩ = false := (k1).free 2
    have f3 : (w1.alloc (Obj.cells #[.slice none 0 0, .slice none 0 0, .int .i64 0, .int .u64 0, .int .u64 0, .int .u64 0, .int .u64 0] 34)).frozen? ⟨w.heap.size + 1, 3, none⟩ = false := (k1).free 3
    have f4 : (w1.alloc (Obj.cells #[.slice none 0 0, .slice none 0 0, .int .i64 0, .int .u64 0, .int .u64 0, .int .u64 0, .int .u64 0] 34)).frozen? ⟨w.heap.size + 1, 4, none⟩ = false := (k1).free 4
    have f5 : (w1.alloc (Obj.cells #[.slice none 0 0, .slice none 0 0, .int .i64 0, .int .u64 0, .int .u64 0, .int .u64 0, .int .u64 0] 34)).frozen? ⟨w.heap.size + 1, 5, none⟩ = false := (k1).free 5
    have hl1 : w.heap.size + 1 < (w1.alloc (Obj.cells #[.slice none 0 0, .slice none 0 0, .int .i64 0, .int .u64 0, .int .u64 0, .int .u64 0, .int .u64 0] 34)).heap.size := k1.lt
    unfold edV zE
    simp only
    clear k0 k1 hb1 A2 hB2 CR CA HCG HCN hR
    go_wp2
    have HZS := zset HK1.out HB2.out (by omega) (.int .i64 0) (.slice none 0 0) (.int .u64 0) (.int .u64 0) (.int .u64 0) (.int .u64 0)
    refine bodyPost_ret (changed_results (b := false) HZS.1 _ rfl rfl) rfl ?_
    exact ⟨rfl, HZS.2⟩
  | some E =>
    obtain ⟨⟨da, dc, aa, ac, rfl, hz1, hf1⟩, hb1⟩ := hr2
    obtain rfl := (HCG.out E hR).symm
    have A2 := (Below.refl _ w1).alloc (Nat.le_refl _) (Obj.cells #[.slice da E.d.length dc, .slice aa E.a.length ac, .int .i64 E.lg, .int .u64 E.fl, .int .u64 E.ct, .int .u64 E.at9, .int .u64 E.ls] 34)
    have hB2 := hb1.trans (A2.mono hb1.size)
    obtain ⟨k0, k1⟩ := HK.out _ (hB2.mono (by rw [HSA.out]; exact Nat.le_refl _))
    have ke := ek_new w1 #[.slice da E.d.length dc, .slice aa E.a.length ac, .int .i64 E.lg, .int .u64 E.fl, .int .u64 E.ct, .int .u64 E.at9, .int .u64 E.ls] 34
    have HB2 := hide (HB0.out.trans (hB2.mono HB0.out.size))
    have HK1 := hide k1
    have c0 : (w1.alloc (Obj.cells #[.slice da E.d.length dc, .slice aa E.a.length ac, .int .i64 E.lg, .int .u64 E.fl, .int .u64 E.ct, .int .u64 E.at9, .int .u64 E.ls] 34)).cell? ⟨w.heap.size, 0, none⟩ = some (.int .i64 V.lg) := (k0).cell rfl
    have c1 : (w1.alloc (Obj.cells #[.slice da E.d.length dc, .slice aa E.a.length ac, .int .i64 E.lg, .int .u64 E.fl, .int .u64 E.ct, .int .u64 E.at9, .int .u64 E.ls] 34)).cell? ⟨w.heap.size, 1, none⟩ = some (.slice fa fn fc) := (k0).cell rfl
    have c2 : (w1.alloc (Obj.cells #[.slice da E.d.length dc, .slice aa E.a.length ac, .int .i64 E.lg, .int .u64 E.fl, .int .u64 E.ct, .int .u64 E.at9, .int .u64 E.ls] 34)).cell? ⟨w.heap.size, 2, none⟩ = some (.int .u64 V.fl) := (k0).cell rfl
    have c3 : (w1.alloc (Obj.cells #[.slice da E.d.length dc, .slice aa E.a.length ac, .int .i64 E.lg, .int .u64 E.fl, .int .u64 E.ct, .int .u64 E.at9, .int .u64 E.ls] 34)).cell? ⟨w.heap.size, 3, none⟩ = some (.int .u64 V.ct) := (k0).cell rfl
    have c4 : (w1.alloc (Obj.cells #[.slice da E.d.length dc, .slice aa E.a.length ac, .int .i64 E.lg, .int .u64 E.fl, .int .u64 E.ct, .int .u64 E.at9, .int .u64 E.ls] 34)).cell? ⟨w.heap.size, 4, none⟩ = some (.int .u64 V.at9) := (k0).cell rfl
    have c5 : (w1.alloc (Obj.cells #[.slice da E.d.length dc, .slice aa E.a.length ac, .int .i64 E.lg, .int .u64 E.fl, .int .u64 E.ct, .int .u64 E.at9, .int .u64 E.ls] 34)).cell? ⟨w.heap.size, 5, none⟩ = some (.int .u64 V.ls) := (k0).cell rfl
    have e0 : (w1.alloc (Obj.cells #[.slice da E.d.length dc, .slice aa E.a.length ac, .int .i64 E.lg, .int .u64 E.fl, .int .u64 E.ct, .int .u64 E.at9, .int .u64 E.ls] 34)).cell? ⟨w1.heap.size, 0, none⟩ = some (.slice da E.d.length dc) := (ke).cell rfl
    have e1 : (w1.alloc (Obj.cells #[.slice da E.d.length dc, .slice aa E.a.length ac, .int .i64 E.lg, .int .u64 E.fl, .int .u64 E.ct, .int .u64 E.at9, .int .u64 E.ls] 34)).cell? ⟨w1.heap.size, 1, none⟩ = some (.slice aa E.a.length ac) := (ke).cell rfl
    have e2 : (w1.alloc (Obj.cells #[.slice da E.d.length dc, .slice aa E.a.length ac, .int .i64 E.lg, .int .u64 E.fl, .int .u64 E.ct, .int .u64 E.at9, .int .u64 E.ls] 34)).cell? ⟨w1.heap.size, 2, none⟩ = some (.int .i64 E.lg) := (ke).cell rfl
    have e3 : (w1.alloc (Obj.cells #[.slice da E.d.length dc, .slice aa E.a.length ac, .int .i64 E.lg, .int .u64 E.fl, .int .u64 E.ct, .int .u64 E.at9, .int .u64 E.ls] 34)).cell? ⟨w1.heap.size, 3, none⟩ = some (.int .u64 E.fl) := (ke).cell rfl
    have e4 : (w1.alloc (Obj.cells #[.slice da E.d.length dc, .slice aa E.a.length ac, .int .i64 E.lg, .int .u64 E.fl, .int .u64 E.ct, .int .u64 E.at9, .int .u64 E.ls] 34)).cell? ⟨w1.heap.size, 4, none⟩ = some (.int .u64 E.ct) := (ke).cell rfl
    have e5 : (w1.alloc (Obj.cells #[.slice da E.d.length dc, .slice aa E.a.length ac, .int .i64 E.lg, .int .u64 E.fl, .int .u64 E.ct, .int .u64 E.at9, .int .u64 E.ls] 34)).cell? ⟨w1.heap.size, 5, none⟩ = some (.int .u64 E.at9) := (ke).cell rfl
    have e6 : (w1.alloc (Obj.cells #[.slice da E.d.length dc, .slice aa E.a.length ac, .int .i64 E.lg, .int .u64 E.fl, .int .u64 E.ct, .int .u64 E.at9, .int .u64 E.ls] 34)).cell? ⟨w1.heap.size, 6, none⟩ = some (.int .u64 E.ls) := (ke).cell rfl
    have CA2 := hide (CA.out E hR _ HB2.out da dc aa ac (hz1.below A2 (Nat.le_refl _)) (hf1.below A2 (Nat.le_refl _)))
    have hl1 : w.heap.size + 1 < (w1.alloc (Obj.cells #[.slice da E.d.length dc, .slice aa E.a.length ac, .int .i64 E.lg, .int .u64 E.fl, .int .u64 E.ct, .int .u64 E.at9, .int .u64 E.ls] 34)).heap.size := k1.lt
    have hl2 : w.heap.size < (w1.alloc (Obj.cells #[.slice da E.d.length dc, .slice aa E.a.length ac, .int .i64 E.lg, .int .u64 E.fl, .int .u64 E.ct, .int .u64 E.at9, .int .u64 E.ls] 34)).heap.size := k0.lt
    have hl3 : w1.heap.size < (w1.alloc (Obj.cells #[.slice da E.d.length dc, .slice aa E.a.length ac, .int .i64 E.lg, .int .u64 E.fl, .int .u64 E.ct, .int .u64 E.at9, .int .u64 E.ls] 34)).heap.size := ke.lt
    unfold edV
    unfold edV at CA2
    clear k0 k1 ke hb1 A2 hB2 CR CA HCG HCN hR hz1 hf1
    go_wp2_with fail
    refine CA2.out.mono ?_
    rintro e w3 hr3
    obtain ⟨a, c, rfl, hcm, ho3, hw3, hb3⟩ := apr_any hr3
    have hk := HK1.out.below hb3 HK1.out.lt
    have HK3 := hide hk
    have HB3 := hide (HB2.out.trans (hb3.mono HB2.out.size))
    have hgr := hr3
    clear hr3
    have z0 : w3.cell? ⟨w.heap.size + 1, 0, none⟩ = some (.int .i64 0) := (hk).cell rfl
    have z1 : w3.cell? ⟨w.heap.size + 1, 1, none⟩ = some (.slice none 0 0) := (hk).cell rfl
    have z2 : w3.cell? ⟨w.heap.size + 1, 2, none⟩ = some (.int .u64 0) := (hk).cell rfl
    have z3 : w3.cell? ⟨w.heap.size + 1, 3, none⟩ = some (.int .u64 0) := (hk).cell rfl
    have z4 : w3.cell? ⟨w.heap.size + 1, 4, none⟩ = some (.int .u64 0) := (hk).cell rfl
    have z5 : w3.cell? ⟨w.heap.size + 1, 5, none⟩ = some (.int .u64 0) := (hk).cell rfl
    have y0 : w3.frozen? ⟨w.heap.size + 1, 0, none⟩ = false := (hk).free 0
    have y1 : w3.frozen? ⟨w.heap.size + 1, 1, none⟩ = false := (hk).free 1
    have y2 : w3.frozen? ⟨w.heap.size + 1, 2, none⟩ = false := (hk).free 2
    have y3 : w3.frozen? ⟨w.heap.size + 1, 3, none⟩ = false := (hk).free 3
    have y4 : w3.frozen? ⟨w.heap.size + 1, 4, none⟩ = false := (hk).free 4
    have y5 : w3.frozen? ⟨w.heap.size + 1, 5, none⟩ = false := (hk).free 5
    have hl4 : w.heap.size + 1 < w3.heap.size := hk.lt
    have HO3 := hide ho3
    have HSZ := hide HB2.out.size
    unfold vwV
    obtain ⟨ok, hok⟩ : ∃ ok, (appl V E).isSome = ok := ⟨_, rfl⟩
    have HOK := hide hok
    rw [hok]
    obtain ⟨U, hU⟩ : ∃ U, apv (appl V E) = U := ⟨_, rfl⟩
    have HU := hide hU
    rw [hU] at hw3 ⊢
    rw [hok, hU] at hgr
    have HGR := hide hgr
    clear CA2 hb3 hgr ho3 hk HK1 hok hU c0 c1 c2 c3 c4 c5 e0 e1 e2 e3 e4 e5 e6
    go_wp2
    have HZS := zset HK3.out HB3.out (by omega) (.int .i64 U.lg) (.slice a U.f.length c) (.int .u64 U.fl) (.int .u64 U.ct) (.int .u64 U.at9) (.int .u64 U.ls)
    refine bodyPost_ret (changed_results (b := ok) HZS.1 _ rfl rfl) rfl ?_
    have hg := gset6 w3 (w.heap.size + 1) (.int .i64 U.lg) (.slice a U.f.length c) (.int .u64 U.fl) (.int .u64 U.ct) (.int .u64 U.at9) (.int .u64 U.ls)
    have hgr := HGR.out
    cases hr : appl V E with
    | none =>
      rw [hr] at hgr
      exact ⟨hgr.1, HZS.2⟩
    | some T =>
      rw [hr] at hgr
      have hok := HOK.out
      rw [hr] at hok
      have hU := HU.out
      rw [hr] at hU
      have hU' : T = U := hU
      subst hU'
      obtain ⟨⟨a', c', h1, h2, h3⟩, h4⟩ := hgr
      have hok' : true = ok := hok
      subst hok'
      have h5 := Ending.returned.inj h1
      unfold vwV at h5
      simp only [Value.tuple.injEq, Value.agg.injEq, Array.mk.injEq, List.cons.injEq, Value.slice.injEq, and_true, true_and] at h5
      obtain ⟨rfl, rfl⟩ := h5
      have hn : ∀ k, (some (w.heap.size + 1) : Option Nat) = some k → k < (w1.alloc (Obj.cells #[.slice da E.d.length dc, .slice aa E.a.length ac, .int .i64 E.lg, .int .u64 E.fl, .int .u64 E.ct, .int .u64 E.at9, .int .u64 E.ls] 34)).heap.size := fun k hk => by have := Option.some.inj hk; omega
      have h6 := ownF_base (ownF_grown h2 hg hn) HSZ.out
      obtain ⟨a8, c8, e8, _, hf8, _⟩ := ownF_fs h6 hw3
      injection e8 with e8 _ e9
      subst e8 e9
      exact ⟨⟨_, _, rfl, h6, hf8⟩, HZS.2⟩

end Go.Proofs.YtcahlmneancapaaGreatDoor.Clep

/- What the statements' own awake does when called (a walk over the translated program): it answers true. -/
namespace Go.Proofs.YtcahlmneancapaaGreatDoor.Clep
open Go.RowKit
set_option linter.unusedVariables false
set_option maxRecDepth 10000

theorem apr_some {V : Vw} {w w' : World} {e : Ending} (h : ApR (some V) w e w') : ∃ a c, e = .returned (.tuple #[vwV a V.f.length c V, .bool true]) ∧ c ≤ 9223372036854775807 ∧ OwnF w' w.heap.size (.slice a V.f.length c) V.f ∧ Fs w' a V.f.length c V.f ∧ Below w.heap.size w w' := by
  obtain ⟨⟨a, c, he, ho, hf⟩, hb⟩ := h
  refine ⟨a, c, he, ?_, ho, hf, hb⟩
  obtain ⟨a', c', e2, hc, _, _⟩ := ownF_fs ho hf.2.2.1
  injection e2 with _ _ e3
  rw [e3]
  exact hc
theorem zs_block {w : World} {p : Nat} {N : Int} (hw : -9223372036854775808 ≤ N ∧ N ≤ 9223372036854775807) (h : w.heap[p]? = some (.cells #[.int .i64 N] 3)) : Zs w (some ⟨p, 0, none⟩) 1 1 [N] := by
  refine ⟨rfl, ⟨Nat.le_refl _, fun h => by cases h⟩, fun x hx => by rw [List.mem_singleton.1 hx]; exact hw, fun _ => ⟨p, 0, rfl, fun i x hi => ?_⟩⟩
  cases i with
  | zero =>
    simp at hi
    subst hi
    simp [World.cell?, h]
  | succ i => simp at hi
def aE1 : Ed := ⟨[], [⟨0, 2⟩], 1, 0, 0, 0, 0⟩
def aV1 : Vw := ⟨1, [⟨0, 2⟩], 0, 0, 0, 0⟩
def aE2 : Ed := ⟨[2], [], 0, 0, 0, 0, 0⟩
def aV2 : Vw := ⟨1, [], 0, 0, 0, 0⟩
theorem awk1 : appl zV aE1 = some aV1 := by kernel_rfl
theorem awk2 : appl aV1 aE2 = some aV2 := by kernel_rfl
end Go.Proofs.YtcahlmneancapaaGreatDoor.Clep
