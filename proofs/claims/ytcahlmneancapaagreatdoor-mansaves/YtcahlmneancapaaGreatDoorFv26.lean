/- A manifest made on a Disk without files, as a function of the Disk. No conditions but the bytes' bound. -/
import Derived.Test.YtcahlmneancapaaGreatDoorFv25
import Derived.Test.YtcahlmneancapaaGreatDoorFv03
import Derived.Deep.Slices
import Derived.ChangeOld
import Derived.ProofKit
import Derived.OpenShut
import Derived.Test.YtcahlmneancapaaGreatDoorFv22
import Derived.Test.YtcahlmneancapaaGreatDoorFv18
namespace Go.Proofs.YtcahlmneancapaaGreatDoor.Clep
open Go.RowKit Go.Maps Go.Sort
set_option linter.unusedVariables false
set_option maxRecDepth 10000

/-- Nothing is set: no call fails. -/
def Calm (S : St) : Prop := S.stop = 0 ∧ S.fail = 0 ∧ S.dead = false
theorem Md.calm {S S' : St} {E : Nat} (h : Md S E S') (c : Calm S) : E = 0 ∧ Calm S' := by
  have h1 := h.fm c.1 c.2.2
  have h2 := h.sm c.2.1
  refine ⟨?_, h1.1, h2.1, h1.2.1⟩
  rcases h1.2.2 with h | h
  · exact h
  · rcases h2.2 with h3 | h3
    · exact h3
    · rw [h.1] at h3; exact absurd h3.1 (by decide)
theorem Mo.calm {S S' : St} (h : Mo S S') (c : Calm S) : Calm S' := ⟨(h.fm c.1 c.2.2).1, h.sm c.2.1, (h.fm c.1 c.2.2).2⟩
theorem new_pre {le : Nat → List Int} {S : St} {W : List Int} (D : Dk S 0) (hc : Calm S) (hno : ∀ t, lk S.names t = 0) (hq : tot S + W.length + (le 1).length ≤ 250000) (hq2 : tot S + W.length + (le 1).length ≤ S.q) :
    ∃ S', preS S 1 W (le 1) = (0, 2, S') ∧ Md S 0 S' ∧ S'.calls ≤ S.calls + 10 ∧ tot S' ≤ tot S + W.length + (le 1).length ∧ S'.q = S.q ∧ Dk S' 1 ∧ Solo le S' 1 W W.length ∧ lk S'.names nFrs = 0 := by
  have i1 : mnm 1 ≠ nCur := by decide
  have i2 : mnm 1 ≠ nFrs := by decide
  obtain ⟨E1, S1, e1⟩ : ∃ E1 S1, layS S (mnm 1) W = (E1, S1) := ⟨_, _, rfl⟩
  obtain ⟨m1, c1, k1, d1, t1, s1⟩ := lay_ok D (Nat.zero_le 1) (by decide) (.inr (.inr ⟨1, by omega, Nat.le_refl _, rfl⟩)) (by decide) (fun _ => hno _) (by omega) (by omega) e1
  obtain ⟨n1, hc1⟩ := m1.calm hc
  subst n1
  have D1 : Dk S1 1 := by rcases d1 with h | h; exact absurd rfl h.1; exact h.1
  have l1 : lk S1.names (mnm 1) ≠ 0 := by rcases d1 with h | h; exact absurd rfl h.1; exact h.2
  obtain ⟨E2, S2, e2⟩ : ∃ E2 S2, prepS S1 (le 1) = (E2, S2) := ⟨_, _, rfl⟩
  obtain ⟨m2, c2, k2, D2, t2, s2⟩ := prep_ok D1 (by omega) (by rw [k1.q]; omega) e2
  obtain ⟨n2, hc2⟩ := m2.calm hc1
  subst n2
  have sw2 := k2.slot _ _ _ i2 (s1 rfl)
  have l2 : lk S2.names (mnm 1) ≠ 0 := by rw [k2.live _ i2]; exact l1
  obtain ⟨sf2, ho2⟩ := s2 rfl
  obtain ⟨E3, S3, e3⟩ : ∃ E3 S3, renS S2 nFrs nCur = (E3, S3) := ⟨_, _, rfl⟩
  have hfr := slot_fl D2 sf2
  obtain ⟨g, hg, g1, g2, g3⟩ := sf2
  obtain ⟨f, hf, f1, f2, f3⟩ := sw2
  have O3 := rename_op okFrs okCur cur_frs.symm hg e3
  have c3 := O3.calls
  obtain ⟨n3, hc3⟩ := O3.md.calm hc2
  subst n3
  rcases O3.res with ⟨n3, q3⟩ | ⟨-, B, q3, r3⟩
  · exact absurd rfl n3
  try simp only at r3
  have DB := q3.dk D2
  have hoB : ∀ N, Outs B N → N = lk B.names := fun N hN => by rw [q3.outs] at hN; rw [q3.names]; exact ho2 N hN
  obtain ⟨D3, l3, o3⟩ := ren_dk DB nFrs nCur cur_frs.symm (.inl rfl) (fun N hN => by rw [hoB N hN, q3.names]; exact hfr)
  rw [← r3] at D3 l3 o3
  have t3 : tot S3 = tot S2 := by rw [r3]; unfold tot; show totF B.files = _; rw [q3.files]
  have fl3 : S3.files = S2.files := by rw [r3]; exact q3.files
  have lc : lk S3.names nCur = lk S2.names nFrs := by rw [l3]; simp [q3.names]
  have lm : lk S3.names (mnm 1) = lk S2.names (mnm 1) := by rw [l3]; simp [q3.names, i1, i2]
  have lf : lk S3.names nFrs = 0 := by rw [l3]; simp [cur_frs.symm]
  have A3 : Am le S3.files (lk S3.names) 1 W W.length := ⟨g, f, by rw [fl3, lc]; exact hg, g1, by rw [g2, g1], by rw [fl3, lm]; exact hf, f1, f2⟩
  have lm0 : lk S3.names (mnm 1) ≠ 0 := by rw [lm]; exact l2
  obtain ⟨E4, S4, e4⟩ : ∃ E4 S4, syncDirS S3 = (E4, S4) := ⟨_, _, rfl⟩
  have O4 := syncDir_op e4
  have c4 := O4.calls
  have Q3 : S3.q = S.q := by rw [r3]; exact q3.q.trans (k2.q.trans k1.q)
  obtain ⟨n4, hc4⟩ := O4.md.calm hc3
  subst n4
  rcases O4.res with ⟨n4, q4⟩ | ⟨-, B4, q4, r4⟩
  · exact absurd rfl n4
  have D4' := q4.dk D3
  obtain ⟨k4, D4, t4⟩ := settle_kp D4' nFrs
  have hO := (settle_dk D4').2
  rw [← r4] at k4 D4 t4 hO
  have tB4 : tot B4 = tot S3 := by unfold tot; rw [q4.files]
  have ln4 : lk S4.names = lk S3.names := by rw [r4]; show lk B4.names = _; rw [q4.names]
  have hc0 : lk S3.names nCur ≠ 0 := by rw [lc]; exact hfr
  have A4 : Am le S4.files (lk S4.names) 1 W W.length := by
    refine A3.congr ?_ ?_
    · rw [ln4, ← q4.files, ← q4.names, r4]; exact settle_at B4 D4'.hn (by rw [q4.names]; exact hc0)
    · rw [ln4, ← q4.files, ← q4.names, r4]; exact settle_at B4 D4'.hn (by rw [q4.names]; exact lm0)
  refine ⟨S4, ?_, ((m1.trans m2).trans O3.md).trans O4.md, by omega, by omega, k4.q.trans (q4.q.trans Q3), D4, ⟨⟨lk S4.names (mnm 1), fun N hN => ?_⟩, by omega, by omega⟩, by rw [ln4]; exact lf⟩
  · unfold preS
    rw [e1]
    simp [e2, e3, e4]
  · have := hO N hN
    have h2 : lk B4.names = lk S4.names := by rw [ln4, q4.names]
    rw [this, h2]
    exact ⟨rfl, A4⟩
theorem lk_none (t : ByteArray) : lk (.map []) t = 0 := rfl
theorem dk_new (q : Nat) : Dk (newS q) 0 :=
  ⟨hl_empty, hl_empty, (fun c hc => absurd hc List.not_mem_nil), rfl, (fun f hf => absurd hf List.not_mem_nil), (fun N hN => by
    have : N = lk (.map []) := hN
    subst this
    exact ⟨fun s hs => absurd (lk_none s) hs, fun s t hs => absurd (lk_none s) hs, fun s hs => absurd (lk_none s) hs⟩), by decide, List.Pairwise.nil⟩
/-- What New makes of a Disk without files. -/
structure NewOk (le : Nat → List Int) (q : Nat) (W : List Int) (S' : St) : Prop where
  eq : renewS (newS q) 1 W (le 1) = (0, 2, S')
  lay : ∀ E1 S1, layS (newS q) (mnm 1) W = (E1, S1) → ∃ T1, Dk S1 T1
  pre : ∀ S4, preS (newS q) 1 W (le 1) = (0, 2, S4) → ∃ T4, Dk S4 T4
  calm : Calm S'
  dk : Dk S' 1
  top : lk S'.names (mnm 1) ≠ 0
  solo : Solo le S' 1 W W.length
  tot : tot S' ≤ W.length + (le 1).length
  q : S'.q = q
  calls : S'.calls ≤ 80
  few : ∀ t, lk S'.names t ≠ 0 → t = nCur ∨ t = mnm 1
theorem new_ok (le : Nat → List Int) (q : Nat) (W : List Int) (hq : W.length + (le 1).length ≤ 250000) (hq2 : W.length + (le 1).length ≤ q) : ∃ S', NewOk le q W S' := by
  have D0 := dk_new q
  have t0 : tot (newS q) = 0 := rfl
  obtain ⟨S4, e4, m4, c4, t4, q4, D4, so4, f4⟩ := new_pre (le := le) (W := W) D0 ⟨rfl, rfl, rfl⟩ (fun t => lk_none t) (by omega) (by show tot (newS q) + _ + _ ≤ q; omega)
  have hc4 := (m4.calm ⟨rfl, rfl, rfl⟩).2
  have hn : lk S4.names (mnm 1) ≠ 0 := by
    obtain ⟨x, hx⟩ := so4.all
    exact (at_fl D4 (hx _ D4.nm).2).2.1
  have hlen := names_len D4
  have hl2 : (if S4.dead then [] else namesL S4).length ≤ 62 := by split; simp; exact hlen
  obtain ⟨b1, b2, b3, b4, b5, b6, b7, b8, b9⟩ := sweep_ok (if S4.dead then [] else namesL S4) S4 D4 so4 hn
  have hc0 : (newS q).calls = 0 := rfl
  refine ⟨sweepL 1 (if S4.dead then [] else namesL S4) S4, ?_, fun E1 S1 e1 => ?_, fun S4' e => ?_, b1.calm hc4, b3, b5, b4, by omega, b7.trans q4, by omega, fun t ht => ?_⟩
  · unfold renewS
    rw [e4]
    rfl
  · obtain ⟨m1, c1, k1, d1, t1, s1⟩ := lay_ok D0 (Nat.zero_le 1) (by decide) (.inr (.inr ⟨1, by omega, Nat.le_refl _, rfl⟩)) (by decide) (fun _ => lk_none _) (by omega) (by show tot (newS q) + _ ≤ q; omega) e1
    rcases d1 with h | h
    · exact ⟨_, h.2.1⟩
    · exact ⟨_, h.1⟩
  · rw [e4] at e
    injection e with _ e
    injection e with _ e
    subst e
    exact ⟨1, D4⟩
  · rw [hc4.2.2] at b8 b9 ht
    simp only [Bool.false_eq_true, if_false] at b8 b9 ht
    have h2 := b8 t ht
    rcases D4.now.sup t h2 with h | h | ⟨k, k1, k2, rfl⟩
    · exact .inl h
    · rw [h] at h2; exact absurd f4 h2
    · exact .inr (by rw [show k = 1 by omega])

end Go.Proofs.YtcahlmneancapaaGreatDoor.Clep

/- What New of a Manifest does when called with a Disk without files (a walk over the translated program). Conditions: a quota of at least 2,000 bytes. -/
namespace Go.Proofs.YtcahlmneancapaaGreatDoor.Clep
open Go.RowKit Go.Maps Go.Sort
set_option linter.unusedVariables false
set_option maxRecDepth 10000

theorem mnew_nil (fa : Option Addr) (fn fc : Nat) (V : Vw) (w : World) : Calls Tryz.prog 10 #[.pointer none, vwV fa fn fc V] w fun e w' => e = .returned (.tuple #[.pointer none, .int .i64 1]) ∧ Below w.heap.size w w' := by
  have hA := hide ((Below.refl _ w).alloc (Nat.le_refl _) (Obj.cells #[.int .i64 V.lg, .slice fa fn fc, .int .u64 V.fl, .int .u64 V.ct, .int .u64 V.at9, .int .u64 V.ls] 31))
  unfold vwV
  go_enter Tryz.func10, Tryz.ntmps10
  go_wp2
  go_ret2
  exact ⟨rfl, hA.out⟩
theorem mnew_bad (R : Nat) (fa : Option Addr) (fn fc : Nat) (V : Vw) (w : World) (h : Fs w fa fn fc V.f) (hn : fn ≤ 9223372036854775807) (hc : fc ≤ 9223372036854775807) (hv : vok V = false) :
    Calls Tryz.prog 10 #[.pointer (some ⟨R, 0, none⟩), vwV fa fn fc V] w fun e w' => e = .returned (.tuple #[.pointer none, .int .i64 1]) ∧ Below w.heap.size w w' := by
  have hA := ((Below.refl _ w).alloc (Nat.le_refl _) (Obj.cells #[.int .i64 V.lg, .slice fa fn fc, .int .u64 V.fl, .int .u64 V.ct, .int .u64 V.at9, .int .u64 V.ls] 31))
  have OK := hide (ok_any fa fn fc V _ (h.below hA (Nat.le_refl _)) hn hc)
  rw [hv] at OK
  have HA := hide hA
  unfold vwV at OK ⊢
  clear h hA
  go_enter Tryz.func10, Tryz.ntmps10
  go_wp2_with fail
  refine OK.out.mono ?_
  rintro e w1 ⟨rfl, hb⟩
  have HE := hide (HA.out.trans (hb.mono HA.out.size))
  clear OK hb HA
  go_wp2
  go_ret2
  exact ⟨rfl, HE.out⟩
set_option maxHeartbeats 2000000 in
theorem mnew_any {F : Nat → Prop} {R q : Nat} {S' : St} (fa : Option Addr) (fn fc : Nat) (V : Vw) (w : World) (hd : Held F w R (newS q)) (h : Fs w fa fn fc V.f) (hc : fc ≤ 9223372036854775807) (hv : vok V = true) (hu : 0 ≤ V.fl ∧ 0 ≤ V.ct ∧ 0 ≤ V.at9 ∧ 0 ≤ V.ls) (hN : NewOk leB q (whB V) S') :
    Calls Tryz.prog 10 #[.pointer (some ⟨R, 0, none⟩), vwV fa fn fc V] w fun e w' => ∃ M F', (∀ i, F i → F' i) ∧ e = .returned (.tuple #[.pointer (some ⟨M, 0, none⟩), .int .i64 0]) ∧ w.heap.size ≤ M ∧ Ma F' w' M R 1 1 V false S' ∧ Same F w w' := by
  have hl := h.1
  subst hl
  have hlen := (good_once (.inr hv)).2
  have hA := ((Below.refl _ w).alloc (Nat.le_refl _) (Obj.cells #[.int .i64 V.lg, .slice fa V.f.length fc, .int .u64 V.fl, .int .u64 V.ct, .int .u64 V.at9, .int .u64 V.ls] 31))
  have kv := ek_new w #[.int .i64 V.lg, .slice fa V.f.length fc, .int .u64 V.fl, .int .u64 V.ct, .int .u64 V.at9, .int .u64 V.ls] 31
  have hs1 : (w.alloc (Obj.cells #[.int .i64 V.lg, .slice fa V.f.length fc, .int .u64 V.fl, .int .u64 V.ct, .int .u64 V.at9, .int .u64 V.ls] 31)).heap.size = w.heap.size + 1 := by simp
  have OK := hide (ok_any fa V.f.length fc V _ (h.below hA (Nat.le_refl _)) (by omega) hc)
  rw [hv] at OK
  have HA := hide hA
  have KV := hide kv
  have HF := hide h
  have HD := hide hd
  have HU := hide hu
  have HNN := hide hN
  unfold vwV at OK ⊢
  clear h hA kv hd hu hN
  go_enter Tryz.func10, Tryz.ntmps10
  go_wp2_with fail
  refine OK.out.mono ?_
  rintro e w1 ⟨rfl, hb⟩
  have k1 := KV.out.below hb (by omega)
  have HB1 := hide (HA.out.trans (hb.mono HA.out.size))
  have c0 : w1.cell? ⟨w.heap.size, 0, none⟩ = some (.int .i64 V.lg) := k1.cell rfl
  have c1 : w1.cell? ⟨w.heap.size, 1, none⟩ = some (.slice fa V.f.length fc) := k1.cell rfl
  have c2 : w1.cell? ⟨w.heap.size, 2, none⟩ = some (.int .u64 V.fl) := k1.cell rfl
  have c3 : w1.cell? ⟨w.heap.size, 3, none⟩ = some (.int .u64 V.ct) := k1.cell rfl
  have c4 : w1.cell? ⟨w.heap.size, 4, none⟩ = some (.int .u64 V.at9) := k1.cell rfl
  have c5 : w1.cell? ⟨w.heap.size, 5, none⟩ = some (.int .u64 V.ls) := k1.cell rfl
  have OW := hide (mown_any fa V.f.length fc V w1 (HF.out.below HB1.out (Nat.le_refl _)) (by omega))
  unfold vwV at OW
  have hb1s := HB1.out.size
  clear OK hb KV HA k1 hs1 HF
  go_wp2_with fail
  refine OW.out.mono ?_
  rintro e w2 ⟨a, c, rfl, hc2, ho, hf2, hx2, hb2⟩
  unfold vwV
  have hb2s := hb2.size
  have b12 := bmore HB1.out hb2
  have b3 := b12.alloc b12.size (Obj.cells (manV R 0 0 a c V false) 92)
  have b23 := (Below.refl _ w2).alloc (Nat.le_refl _) (Obj.cells (manV R 0 0 a c V false) 92)
  have hs3 : (w2.alloc (Obj.cells (manV R 0 0 a c V false) 92)).heap.size = w2.heap.size + 1 := by simp
  have m3 : Ma (fun i => F i ∨ (w.heap.size ≤ i ∧ i < (w2.alloc (Obj.cells (manV R 0 0 a c V false) 92)).heap.size)) (w2.alloc (Obj.cells (manV R 0 0 a c V false) 92)) w2.heap.size R 0 0 V false (newS q) :=
    ⟨⟨a, c, ek_new w2 _ _, hf2.below b23 (Nat.le_refl _), hc2, fun x e => by
      subst e
      have h1 := World.ownsRow.lt ho _ (by rfl)
      exact ⟨.inr ⟨by omega, by omega⟩, by omega⟩⟩, HD.out.wide b3, .inr ⟨by omega, by omega⟩⟩
  have REN := hide (renew_any m3 (dk_new q) hv HU.out (show (0 : Nat) < 137438953472 by decide) (by decide) (by decide) HNN.out.lay HNN.out.pre)
  have S3 := hide (same_of (F := F) b3 (fun i hi => HD.out.lt hi))
  have HFL := hide (fun i (hi : F i) => HD.out.lt hi)
  unfold manV at REN S3
  simp only [Bool.false_eq_true, if_false, show (((1 : Nat) : Int)) = 1 from rfl, show (((0 : Nat) : Int)) = 0 from rfl] at REN S3
  clear OW ho hf2 hx2 hb2 b12 b3 b23 hs3 m3 c0 c1 c2 c3 c4 c5
  go_wp2_with fail
  refine REN.out.mono ?_
  rintro e w4 ⟨E, ph, S4, h1, rfl, h2, h3⟩
  rw [HNN.out.eq] at h1
  injection h1 with q1 q2
  injection q2 with q2 q3
  subst q1 q2 q3
  have HE := hide (And.intro h2 (S3.out.trans (h3.mono (F' := F) (fun i hi => ⟨.inl hi, by have := HFL.out i hi; omega⟩))))
  clear REN h2 h3 S3
  go_wp2
  go_ret2
  exact ⟨_, _, fun i hi => Or.inl hi, rfl, by omega, HE.out.1, HE.out.2⟩

end Go.Proofs.YtcahlmneancapaaGreatDoor.Clep

/- Edits that come in: a Meta, an Edit by value, and a row of Edits, opened. No conditions. -/
namespace Go.Proofs.YtcahlmneancapaaGreatDoor.Clep
open Go.RowKit Go.ChangeShapes Go.WideShapes Go.Deep
set_option linter.unusedVariables false

/-- An Edit, and where its lists lie. -/
structure Er where
  da : Option Addr
  dn : Nat
  dc : Nat
  aa : Option Addr
  an : Nat
  ac : Nat
  E : Ed
def u64r (x : Int) : Prop := 0 ≤ x ∧ x ≤ 18446744073709551615
def i64r (x : Int) : Prop := -9223372036854775808 ≤ x ∧ x ≤ 9223372036854775807
/-- The Edit lies so in w; its numbers are numbers. -/
def Er.ok (w : World) (y : Er) : Prop := (Zs w y.da y.dn y.dc y.E.d ∧ y.dn ≤ 9223372036854775807) ∧ (Fs w y.aa y.an y.ac y.E.a ∧ y.an ≤ 9223372036854775807) ∧ i64r y.E.lg ∧ u64r y.E.fl ∧ u64r y.E.ct ∧ u64r y.E.at9 ∧ u64r y.E.ls
def Er.v (y : Er) : Value := edV y.da y.dn y.dc y.aa y.an y.ac y.E
def Er.cs (y : Er) : List Value := [.slice y.da y.dn y.dc, .slice y.aa y.an y.ac, .int .i64 y.E.lg, .int .u64 y.E.fl, .int .u64 y.E.ct, .int .u64 y.E.at9, .int .u64 y.E.ls]
theorem Er.ok.below {w w' : World} {B : Nat} {y : Er} (h : y.ok w) (hb : Below B w w') (hB : w.heap.size ≤ B) : y.ok w' := ⟨⟨h.1.1.below hb hB, h.1.2⟩, ⟨h.2.1.1.below hb hB, h.2.1.2⟩, h.2.2⟩
/-- The slice (ao, len, cap) leads to the Edits l. -/
def Es (w : World) (ao : Option Addr) (len cap : Nat) (l : List Er) : Prop :=
  l.length = len ∧ (len ≤ cap ∧ (ao = none → len = 0 ∧ cap = 0)) ∧ (∀ x ∈ l, x.ok w) ∧
    (0 < len → ∃ b off, ao = some ⟨b, off, none⟩ ∧ ∀ (i : Nat) (y : Er) (j : Nat) (u : Value), l[i]? = some y → y.cs[j]? = some u → w.cell? ⟨b, off + i * 7 + j, none⟩ = some u)
theorem es_nil (w : World) : Es w none 0 0 [] := ⟨rfl, ⟨Nat.le_refl _, fun _ => ⟨rfl, rfl⟩⟩, by simp, fun h => by omega⟩
theorem Es.below {w w' : World} {B : Nat} {ao : Option Addr} {len cap : Nat} {l : List Er} (h : Es w ao len cap l) (hb : Below B w w') (hB : w.heap.size ≤ B) : Es w' ao len cap l := by
  refine ⟨h.1, h.2.1, fun x hx => (h.2.2.1 x hx).below hb hB, fun h0 => ?_⟩
  obtain ⟨b, off, e, hc⟩ := h.2.2.2 h0
  refine ⟨b, off, e, fun i y j u hy hu => ?_⟩
  have hg := hc i y j u hy hu
  exact (hb.cell (p := ⟨b, off + i * 7 + j, none⟩) (Nat.lt_of_lt_of_le (World.block_lt_of_cell? w _ hg) hB)).trans hg
theorem es_at {w : World} {ao : Option Addr} {len cap : Nat} {l : List Er} (h : Es w ao len cap l) (k : Nat) (hk : k < len) : ∃ y b off, l[k]? = some y ∧ ao = some ⟨b, off, none⟩ ∧ y.ok w ∧
    w.cell? ⟨b, off + k * 7, none⟩ = some (.slice y.da y.dn y.dc) ∧ w.cell? ⟨b, off + k * 7 + 1, none⟩ = some (.slice y.aa y.an y.ac) ∧ w.cell? ⟨b, off + k * 7 + 2, none⟩ = some (.int .i64 y.E.lg) ∧ w.cell? ⟨b, off + k * 7 + 3, none⟩ = some (.int .u64 y.E.fl) ∧
    w.cell? ⟨b, off + k * 7 + 4, none⟩ = some (.int .u64 y.E.ct) ∧ w.cell? ⟨b, off + k * 7 + 5, none⟩ = some (.int .u64 y.E.at9) ∧ w.cell? ⟨b, off + k * 7 + 6, none⟩ = some (.int .u64 y.E.ls) := by
  obtain ⟨b, off, e, hc⟩ := h.2.2.2 (by omega)
  obtain ⟨y, hy⟩ : ∃ y, l[k]? = some y := ⟨_, List.getElem?_eq_getElem (by rw [h.1]; exact hk)⟩
  exact ⟨y, b, off, hy, e, h.2.2.1 y (List.mem_of_getElem? hy), hc k y 0 _ hy rfl, hc k y 1 _ hy rfl, hc k y 2 _ hy rfl, hc k y 3 _ hy rfl, hc k y 4 _ hy rfl, hc k y 5 _ hy rfl, hc k y 6 _ hy rfl⟩

theorem elist2 {α : Type} {cs : List α} (h : cs.length = 2) : ∃ c0 c1, cs = [c0, c1] := by
  match cs, h with
  | [c0, c1], _ => exact ⟨c0, c1, rfl⟩
theorem elist4 {α : Type} {cs : List α} (h : cs.length = 4) : ∃ c0 c1 c2 c3, cs = [c0, c1, c2, c3] := by
  match cs, h with
  | [c0, c1, c2, c3], _ => exact ⟨c0, c1, c2, c3, rfl⟩
theorem elist7 {α : Type} {cs : List α} (h : cs.length = 7) : ∃ c0 c1 c2 c3 c4 c5 c6, cs = [c0, c1, c2, c3, c4, c5, c6] := by
  match cs, h with
  | [c0, c1, c2, c3, c4, c5, c6], _ => exact ⟨c0, c1, c2, c3, c4, c5, c6, rfl⟩
theorem ecellsE : Tryz.prog.cellsOf 34 = 7 := by kernel_rfl
theorem ecellsF : Tryz.prog.cellsOf 99 = 2 := by kernel_rfl
theorem ecellsI : Tryz.prog.cellsOf 3 = 1 := by kernel_rfl
theorem ecellsU : Tryz.prog.cellsOf 29 = 1 := by kernel_rfl
theorem ecellsSI : Tryz.prog.cellsOf 32 = 1 := by kernel_rfl
theorem ecellsSF : Tryz.prog.cellsOf 28 = 1 := by kernel_rfl
theorem echoose {α : Type} [Inhabited α] {n : Nat} {P : Nat → α → Prop} (h : ∀ i, i < n → ∃ y, P i y) : ∃ q : Nat → α, ∀ i, i < n → P i (q i) := by
  refine ⟨fun i => if hi : i < n then Classical.choose (h i hi) else default, fun i hi => ?_⟩
  simp only [hi, dif_pos]
  exact Classical.choose_spec (h i hi)

section
variable {H : Type} {enc : TypeId × Value → H} {W : World} {base : Nat} {spare : Nat → Bool} {held : Bool}

set_option maxRecDepth 100000 in
theorem zs_trod {fuel : Nat} {cs : List Value} {x : DataW H × List MemPlace} (h : DataW.trod enc Tryz.prog W base spare held fuel 32 cs = some x) : ∃ a n c l, cs = [.slice a n c] ∧ Zs W a n c l ∧ n ≤ 9223372036854775807 := by
  rcases open_ints Tryz.underlying32 Tryz.underlying3 (by kernel_rfl) h with ⟨hcs, _⟩ | ⟨x, l, c, zs, hcs, _, hl, hm, hz, _, hcell, hwz⟩
  · exact ⟨none, 0, 0, [], hcs, zs_nil W, by omega⟩
  · have hzl : l ≤ zs.length := by rw [hz]; split <;> omega
    refine ⟨some x, l, c, zs.take l, hcs, ⟨by rw [List.length_take]; omega, ⟨hl, fun h => by cases h⟩, fun z hz' => i64_bounds (hwz z (List.mem_of_mem_take hz')), fun h0 => ?_⟩, by unfold maxLen at hm; omega⟩
    obtain ⟨b, off, spot⟩ := x
    have hc := hcell 0 (by omega)
    have hspot : spot = none := by simpa [Addr.add] using World.cell?_spot hc
    subst hspot
    refine ⟨b, off, rfl, fun i z hi => ?_⟩
    have hil : i < l := by have := (List.getElem?_eq_some_iff.1 hi).1; rw [List.length_take] at this; omega
    have := hcell i (by omega)
    rw [add_plain] at this
    rw [this]
    rw [List.getElem?_take_of_lt hil] at hi
    simp [List.getD, hi]

set_option maxRecDepth 100000 in
theorem file_cells {fuel : Nat} {cs : List Value} {x : DataW H × List MemPlace} (h : DataW.trod enc Tryz.prog W base spare held fuel 99 cs = some x) :
    ∃ y : Fi, cs = [.int .i64 y.L, .int .i64 y.N] ∧ y.wf := by
  obtain ⟨xs, n, _, _, hl, hlen, hf⟩ := DataW.trod_struct Tryz.underlying99 h
  rw [ecellsF] at hl
  obtain ⟨c0, c1, rfl⟩ := elist2 hl
  obtain ⟨x0, x1, rfl⟩ := elist2 (show xs.length = 2 from hlen)
  have g0 := hf 0 _ rfl
  have g1 := hf 1 _ rfl
  simp [ecellsI] at g0 g1
  obtain ⟨L, e0, _, w0⟩ := DataW.trod_int Tryz.underlying3 g0
  obtain ⟨N, e1, _, w1⟩ := DataW.trod_int Tryz.underlying3 g1
  cases e0; cases e1
  exact ⟨⟨L, N⟩, rfl, i64_bounds w0, i64_bounds w1⟩

set_option maxRecDepth 100000 in
theorem fs_trod {fuel : Nat} {cs : List Value} {x : DataW H × List MemPlace} (h : DataW.trod enc Tryz.prog W base spare held fuel 28 cs = some x) : ∃ a n c l, cs = [.slice a n c] ∧ Fs W a n c l ∧ n ≤ 9223372036854775807 := by
  haveI : Inhabited Fi := ⟨⟨0, 0⟩⟩
  rcases open_slice Tryz.underlying28 h with ⟨hcs, _⟩ | ⟨x, l, c, m, n, D, Pl, hcs, _, hl, hm, hmm, _, hx⟩
  · exact ⟨none, 0, 0, [], hcs, fs_nil W, by omega⟩
  · have hlm : l ≤ m := by rw [hmm]; split <;> omega
    have each : ∀ i, i < l → ∃ y : Fi, y.wf ∧ (∀ j u, [Value.int IntKind.i64 y.L, .int .i64 y.N][j]? = some u → W.cell? ((x.add (i * 2)).add j) = some u) := by
      intro i hi
      obtain ⟨cs', h1, h2⟩ := hx i (by omega)
      rw [ecellsF] at h1
      obtain ⟨y, e, hy⟩ := file_cells h2
      obtain ⟨_, hlen, hc⟩ := World.cells?_some h1
      refine ⟨y, hy, fun j u hu => ?_⟩
      rw [← e] at hu
      rw [hc j (by have := (List.getElem?_eq_some_iff.1 hu).1; omega)]
      exact hu
    obtain ⟨q, hq⟩ := echoose each
    refine ⟨some x, l, c, (List.range l).map q, hcs, ⟨by simp, ⟨hl, fun h => by cases h⟩, ?_, fun h0 => ?_⟩, by unfold maxLen at hm; omega⟩
    · intro y hy
      obtain ⟨i, hi, rfl⟩ := List.mem_map.1 hy
      exact (hq i (List.mem_range.1 hi)).1
    · obtain ⟨b, off, spot⟩ := x
      have hc := (hq 0 h0).2 0 _ rfl
      have hspot : spot = none := by simpa [Addr.add] using World.cell?_spot hc
      subst hspot
      refine ⟨b, off, rfl, fun i f hf => ?_⟩
      have hil : i < l := by have := (List.getElem?_eq_some_iff.1 hf).1; simpa using this
      have hfq : f = q i := by
        rw [List.getElem?_map, List.getElem?_range hil] at hf
        exact (Option.some.inj hf).symm
      subst hfq
      have h0' := (hq i hil).2 0 _ rfl
      have h1' := (hq i hil).2 1 _ rfl
      rw [add_plain, add_plain] at h0' h1'
      exact ⟨h0', h1'⟩

set_option maxRecDepth 100000 in
theorem edit_cells {fuel : Nat} {cs : List Value} {x : DataW H × List MemPlace} (h : DataW.trod enc Tryz.prog W base spare held fuel 34 cs = some x) : ∃ y : Er, cs = y.cs ∧ y.ok W := by
  obtain ⟨xs, n, _, _, hl, hlen, hf⟩ := DataW.trod_struct Tryz.underlying34 h
  rw [ecellsE] at hl
  obtain ⟨c0, c1, c2, c3, c4, c5, c6, rfl⟩ := elist7 hl
  obtain ⟨x0, x1, x2, x3, x4, x5, x6, rfl⟩ := elist7 (show xs.length = 7 from hlen)
  have g0 := hf 0 _ rfl
  have g1 := hf 1 _ rfl
  have g2 := hf 2 _ rfl
  have g3 := hf 3 _ rfl
  have g4 := hf 4 _ rfl
  have g5 := hf 5 _ rfl
  have g6 := hf 6 _ rfl
  simp [ecellsI, ecellsU, ecellsSI, ecellsSF] at g0 g1 g2 g3 g4 g5 g6
  obtain ⟨da, dn, dc, d, e0, hd, hdn⟩ := zs_trod g0
  obtain ⟨aa, an, ac, a, e1, ha, han⟩ := fs_trod g1
  obtain ⟨lg, e2, _, w2⟩ := DataW.trod_int Tryz.underlying3 g2
  obtain ⟨fl, e3, _, w3⟩ := DataW.trod_int Tryz.underlying29 g3
  obtain ⟨ct, e4, _, w4⟩ := DataW.trod_int Tryz.underlying29 g4
  obtain ⟨at9, e5, _, w5⟩ := DataW.trod_int Tryz.underlying29 g5
  obtain ⟨ls, e6, _, w6⟩ := DataW.trod_int Tryz.underlying29 g6
  cases e0; cases e1; cases e2; cases e3; cases e4; cases e5; cases e6
  exact ⟨⟨da, dn, dc, aa, an, ac, ⟨d, a, lg, fl, ct, at9, ls⟩⟩, rfl, ⟨hd, hdn⟩, ⟨ha, han⟩, i64_bounds w2, u64_bounds w3, u64_bounds w4, u64_bounds w5, u64_bounds w6⟩

set_option maxRecDepth 100000 in
theorem open_edit {r : Reach} {b0 : Nat} {v : Value} {d : DataW H} {p : List MemPlace} (hv : Value.okWide Tryz.prog W r b0 34 v) (h : DataW.Trod enc Tryz.prog W base spare held 34 v d p) :
    ∃ y : Er, v = .agg #[.slice y.da y.dn y.dc, .slice y.aa y.an y.ac, .int .i64 y.E.lg, .int .u64 y.E.fl, .int .u64 y.E.ct, .int .u64 y.E.at9, .int .u64 y.E.ls] ∧ y.ok W := by
  obtain ⟨cs, rfl, _⟩ := okWide_struct Tryz.underlying34 hv
  obtain ⟨fuel, hf⟩ := h
  obtain ⟨y, e, hy⟩ := edit_cells hf
  refine ⟨y, ?_, hy⟩
  obtain ⟨l⟩ := cs
  simp only [Value.cells] at e
  rw [e]
  rfl

set_option maxRecDepth 100000 in
theorem open_edits {a : Option Addr} {len cap : Nat} {d : DataW H} {p : List MemPlace} (h : DataW.Trod enc Tryz.prog W base spare held 54 (.slice a len cap) d p) :
    ∃ l, Es W a len cap l ∧ len ≤ 9223372036854775807 := by
  haveI : Inhabited Er := ⟨⟨none, 0, 0, none, 0, 0, ⟨[], [], 0, 0, 0, 0, 0⟩⟩⟩
  obtain ⟨fuel, hf⟩ := h
  rcases open_slice Tryz.underlying54 hf with ⟨hcs, _⟩ | ⟨x, l, c, m, n, D, Pl, hcs, _, hl, hm, hmm, _, hx⟩
  · simp [Value.cells] at hcs
    obtain ⟨rfl, rfl, rfl⟩ := hcs
    exact ⟨[], es_nil W, by omega⟩
  · simp [Value.cells] at hcs
    obtain ⟨rfl, rfl, rfl⟩ := hcs
    have hlm : len ≤ m := by rw [hmm]; split <;> omega
    have each : ∀ i, i < len → ∃ y : Er, y.ok W ∧ (∀ j u, y.cs[j]? = some u → W.cell? ((x.add (i * 7)).add j) = some u) := by
      intro i hi
      obtain ⟨cs', h1, h2⟩ := hx i (by omega)
      rw [ecellsE] at h1
      obtain ⟨y, e, hy⟩ := edit_cells h2
      obtain ⟨_, hlen, hc⟩ := World.cells?_some h1
      refine ⟨y, hy, fun j u hu => ?_⟩
      rw [← e] at hu
      rw [hc j (by have := (List.getElem?_eq_some_iff.1 hu).1; omega)]
      exact hu
    obtain ⟨q, hq⟩ := echoose each
    refine ⟨(List.range len).map q, ⟨by simp, ⟨hl, fun h => by cases h⟩, ?_, fun h0 => ?_⟩, by unfold maxLen at hm; omega⟩
    · intro y hy
      obtain ⟨i, hi, rfl⟩ := List.mem_map.1 hy
      exact (hq i (List.mem_range.1 hi)).1
    · obtain ⟨b, off, spot⟩ := x
      have hc := (hq 0 h0).2 0 _ rfl
      have hspot : spot = none := by simpa [Addr.add] using World.cell?_spot hc
      subst hspot
      refine ⟨b, off, rfl, fun i y j u hy hu => ?_⟩
      have hil : i < len := by have := (List.getElem?_eq_some_iff.1 hy).1; simpa using this
      have hfq : y = q i := by
        rw [List.getElem?_map, List.getElem?_range hil] at hy
        exact (Option.some.inj hy).symm
      subst hfq
      have h0' := (hq i hil).2 j u hu
      rw [add_plain, add_plain] at h0'
      exact h0'
end

end Go.Proofs.YtcahlmneancapaaGreatDoor.Clep

/- The Edits of the statement EditCuts, made of numbers: each is applied; what the View is like then. No conditions. -/
namespace Go.Proofs.YtcahlmneancapaaGreatDoor.Clep
open Go.RowKit
set_option linter.unusedVariables false
set_option maxRecDepth 10000

theorem zs_row {w : World} {a : Option Addr} {len cap : Nat} {zs : List Int}
    (h : (a = none ∧ len = 0 ∧ cap = 0 ∧ zs = []) ∨ ∃ x, a = some x ∧ len ≤ cap ∧ cap ≤ maxLen ∧ zs.length = cap ∧ (∀ i, i < zs.length → w.cell? (x.add i) = some (.int .i64 (zs.getD i 0))) ∧ ∀ n ∈ zs, (Lit.int .i64 n).wf = true) :
    Zs w a len cap (zs.take len) ∧ len ≤ 9223372036854775807 := by
  rcases h with ⟨rfl, rfl, rfl, rfl⟩ | ⟨x, rfl, hl, hm, hz, hcell, hwz⟩
  · exact ⟨zs_nil w, by omega⟩
  · refine ⟨⟨by rw [List.length_take]; omega, ⟨hl, fun h => by cases h⟩, fun z hz' => i64_bounds (hwz z (List.mem_of_mem_take hz')), fun h0 => ?_⟩, by unfold maxLen at hm; omega⟩
    obtain ⟨b, off, spot⟩ := x
    have hc := hcell 0 (by omega)
    have hspot : spot = none := by simpa [Addr.add] using World.cell?_spot hc
    subst hspot
    refine ⟨b, off, rfl, fun i z hi => ?_⟩
    have hil : i < len := by have := (List.getElem?_eq_some_iff.1 hi).1; rw [List.length_take] at this; omega
    have := hcell i (by omega)
    rw [add_plain] at this
    rw [this]
    rw [List.getElem?_take_of_lt hil] at hi
    simp [List.getD, hi]
/-- The View behind i of the statement's Edits. -/
structure GI (V : Vw) (i : Nat) : Prop where
  on : once V.f = true
  mem : ∀ x ∈ V.f, (0 ≤ x.L ∧ x.L ≤ 3) ∧ 10 ≤ x.N ∧ x.N < (i : Int) + 10
  len : V.f.length ≤ i
  low : i ≤ 3 → V.f.length = i
  more : 3 ≤ i → 3 ≤ V.f.length
  lg : V.lg = (i : Int)
  fl : 0 ≤ V.fl ∧ V.fl ≤ 255
  z1 : V.ct = 0
  z2 : V.at9 = 0
  z3 : V.ls = 0
theorem gi_zero : GI zV 0 := ⟨rfl, fun x hx => (by cases hx), Nat.le_refl _, fun _ => rfl, fun h => by omega, rfl, by decide, rfl, rfl, rfl⟩
theorem atN_first (x : Fi) (r : List Fi) : atN (x :: r) x.N = 0 := by unfold atN; rw [List.findIdx_cons]; simp
theorem dropN_first (x : Fi) (r : List Fi) : dropN (x :: r) [x.N] = some r := by
  show (if atN (x :: r) x.N = (x :: r).length then none else dropN (wo (x :: r) (atN (x :: r) x.N)) []) = _
  rw [atN_first, if_neg (by simp)]
  simp [wo, dropN]
/-- The statement's Edit of the round i. -/
def cE (d : List Int) (L f : Int) (i : Nat) : Ed := ⟨d, [⟨L, (i : Int) + 10⟩], (i : Int) + 1, f, 0, 0, 0⟩
theorem cE_good (d : List Int) (L f : Int) (i : Nat) (hL : 0 ≤ L ∧ L ≤ 3) (hf : 0 ≤ f ∧ f ≤ 255) (hi : i < 12) (hd : d.length ≤ 1 ∧ ∀ z ∈ d, 1 ≤ z ∧ z ≤ 1000) : Eg (cE d L f i) := by
  refine ⟨?_, hf.1, by simp [cE], by simp [cE], by simp [cE]⟩
  unfold emay
  rw [if_pos]
  have h1 : edH (cE d L f i) = true := by
    unfold edH cE
    simp only [decide_eq_true_eq, List.length_cons, List.length_nil]
    have := hd.1
    omega
  have h2 : (cE d L f i).d.all okN = true := by
    rw [List.all_eq_true]
    intro z hz
    have := hd.2 z hz
    unfold okN
    rw [decide_eq_true_eq]
    omega
  have h3 : (cE d L f i).a.all Fi.ok = true := by
    unfold cE
    simp only [List.all_cons, List.all_nil, Bool.and_true]
    unfold Fi.ok
    simp
    omega
  rw [h1, h2, h3]
  rfl
theorem gi_step {V : Vw} {i : Nat} (h : GI V i) (d : List Int) (L f : Int) (m : List Fi) (hL : 0 ≤ L ∧ L ≤ 3) (hf : 0 ≤ f ∧ f ≤ 255) (hi : i < 12) (hdr : dropN V.f d = some m) (hsub : (d = [] ∧ m = V.f) ∨ (3 ≤ i ∧ ∃ x, V.f = x :: m ∧ d = [x.N])) :
    ∃ U, appl V (cE d L f i) = some U ∧ GI U (i + 1) := by
  have hm : (∀ x ∈ m, x ∈ V.f) ∧ once m = true ∧ m.length ≤ V.f.length ∧ (i < 3 → m.length = V.f.length) ∧ V.f.length ≤ m.length + 1 := by
    rcases hsub with ⟨rfl, rfl⟩ | ⟨h3, x, hx, rfl⟩
    · exact ⟨fun x hx => hx, h.on, Nat.le_refl _, fun _ => rfl, by omega⟩
    · have ho := h.on
      rw [hx] at ho ⊢
      unfold once at ho
      rw [Bool.and_eq_true] at ho
      exact ⟨fun y hy => List.mem_cons_of_mem _ hy, ho.2, by simp, fun h => by omega, by simp⟩
  have hlen := h.len
  have hon : once (m ++ [⟨L, (i : Int) + 10⟩]) = true := by
    rw [once_end, hm.2.1, Bool.true_and, List.all_eq_true]
    intro g hg
    have := (h.mem g (hm.1 g hg)).2.2
    have hne : g.N ≠ (i : Int) + 10 := by omega
    simpa using hne
  have hmem : ∀ x ∈ m ++ [(⟨L, (i : Int) + 10⟩ : Fi)], (0 ≤ x.L ∧ x.L ≤ 3) ∧ 10 ≤ x.N ∧ x.N < ((i + 1 : Nat) : Int) + 10 := by
    intro x hx
    rcases List.mem_append.1 hx with e | e
    · have := h.mem x (hm.1 x e); omega
    · rw [List.mem_singleton.1 e]; exact ⟨hL, by simp only; omega, by simp only; omega⟩
  have hp1 : put0 V.lg ((i : Int) + 1) = ((i + 1 : Nat) : Int) := by unfold put0; rw [if_neg (by omega)]; omega
  have hp2 : 0 ≤ put0 V.fl f ∧ put0 V.fl f ≤ 255 := by
    have := h.fl
    unfold put0
    split <;> omega
  have hp3 : ∀ x : Int, put0 x 0 = x := fun x => by unfold put0; rw [if_pos rfl]
  refine ⟨after V (cE d L f i) m, ?_, ?_⟩
  · unfold appl
    rw [show (cE d L f i).d = d from rfl, hdr]
    simp only
    rw [if_pos]
    unfold vok
    rw [Bool.and_eq_true, Bool.and_eq_true]
    refine ⟨?_, ?_, hon⟩
    · unfold vwH after cE
      simp only [decide_eq_true_eq, hp1, hp3, h.z1, h.z2, h.z3, List.length_append, List.length_cons, List.length_nil]
      have := hm.2.2.1
      omega
    · rw [List.all_eq_true]
      intro x hx
      have := hmem x hx
      unfold Fi.ok
      simp
      omega
  · refine ⟨hon, hmem, ?_, ?_, ?_, hp1, hp2, by unfold after cE; simp only [hp3, h.z1], by unfold after cE; simp only [hp3, h.z2], by unfold after cE; simp only [hp3, h.z3]⟩
    · have := hm.2.2.1
      show (m ++ [_]).length ≤ _
      rw [List.length_append]
      simp only [List.length_cons, List.length_nil]
      omega
    · intro h3
      have h4 := hm.2.2.2.1 (by omega)
      have h5 := h.low (by omega)
      show (m ++ [_]).length = _
      rw [List.length_append]
      simp only [List.length_cons, List.length_nil]
      omega
    · intro h3
      show 3 ≤ (m ++ [_]).length
      rw [List.length_append]
      simp only [List.length_cons, List.length_nil]
      rcases Nat.lt_or_ge i 3 with h4 | h4
      · have h5 := h.low (by omega)
        have h6 := hm.2.2.2.1 h4
        omega
      · have h5 := h.more h4
        have h6 := hm.2.2.2.2
        omega
theorem gi_first {V : Vw} {i : Nat} (h : GI V i) (h3 : 3 ≤ i) (hi : i < 12) : ∃ x m, V.f = x :: m ∧ dropN V.f [x.N] = some m ∧ 1 ≤ x.N ∧ x.N ≤ 1000 ∧ x.wf := by
  cases hf : V.f with
  | nil => have := h.more h3; rw [hf] at this; simp at this
  | cons x m =>
    have := h.mem x (by rw [hf]; simp)
    have hl := h.len
    refine ⟨x, m, rfl, dropN_first x m, by omega, by omega, ?_⟩
    unfold Fi.wf
    omega
/-- Where the Edits end, as the statement's row tells. -/
def ends (l : List Ed) : List Int := (List.range (l.length + 1)).map (fun k => (een l k : Int))
theorem een_app (l : List Ed) (E : Ed) (k : Nat) (hk : k ≤ l.length) : een (l ++ [E]) k = een l k := by unfold een; rw [List.take_append_of_le_length hk]
theorem ends_snoc (l : List Ed) (E : Ed) : ends (l ++ [E]) = ends l ++ [((el (l ++ [E])).length : Int)] := by
  unfold ends
  rw [List.length_append, List.length_singleton, List.range_succ, List.map_append]
  congr 1
  · refine List.map_congr_left fun k hk => ?_
    rw [een_app l E k (by have := List.mem_range.1 hk; omega)]
  · rw [List.map_singleton, een_all _ _ (by simp)]
theorem ends_len (l : List Ed) : (ends l).length = l.length + 1 := by unfold ends; simp
theorem ends_at (l : List Ed) (k : Nat) (hk : k ≤ l.length) : (ends l)[k]? = some (een l k : Int) := by
  unfold ends
  rw [List.getElem?_map, List.getElem?_range (by omega)]
  rfl
theorem el_snoc (l : List Ed) (E : Ed) : el (l ++ [E]) = el l ++ fr 6 (ebd E) := by rw [el_app, el_one]

end Go.Proofs.YtcahlmneancapaaGreatDoor.Clep

/- A manifest's state: the Edits of its file, the View that they make, what lasts; what Save, a renewal, a loss of power and a reading make of it, as functions of the Disk. Up to 60 files, 250,000 bytes. -/
namespace Go.Proofs.YtcahlmneancapaaGreatDoor.Clep
open Go.RowKit Go.Maps Go.Sort
set_option linter.unusedVariables false
set_option maxRecDepth 10000

def Vnn (V : Vw) : Prop := 0 ≤ V.fl ∧ 0 ≤ V.ct ∧ 0 ≤ V.at9 ∧ 0 ≤ V.ls
theorem put0_nn {x y : Int} (h1 : 0 ≤ x) (h2 : 0 ≤ y) : 0 ≤ put0 x y := by unfold put0; split <;> omega
theorem appl_nn {V U : Vw} {E : Ed} (h : appl V E = some U) (hV : Vnn V) (hE : 0 ≤ E.fl ∧ 0 ≤ E.ct ∧ 0 ≤ E.at9 ∧ 0 ≤ E.ls) : Vnn U := by
  unfold appl at h
  split at h
  · cases h
  · split at h
    · injection h with h
      subst h
      exact ⟨put0_nn hV.1 hE.1, put0_nn hV.2.1 hE.2.1, put0_nn hV.2.2.1 hE.2.2.1, put0_nn hV.2.2.2 hE.2.2.2⟩
    · cases h
theorem apE_nn : ∀ (l : List Ed) (V U : Vw), apE V l = some U → Vnn V → (∀ E ∈ l, Eg E) → Vnn U
  | [], V, U, h, hV, _ => by injection h with h; rw [← h]; exact hV
  | E :: l, V, U, h, hV, hE => by
    rw [apE_cons] at h
    cases hr : appl V E with
    | none => rw [hr] at h; cases h
    | some X => rw [hr] at h; exact apE_nn l X U h (appl_nn hr hV (hE E List.mem_cons_self).2) (fun E he => hE E (List.mem_cons_of_mem _ he))
theorem apE_ok : ∀ (l : List Ed) (V U : Vw), apE V l = some U → vok V = true ∨ 0 < l.length → vok U = true
  | [], V, U, h, hV => by
    injection h with h
    rw [← h]
    rcases hV with h | h
    · exact h
    · simp at h
  | E :: l, V, U, h, _ => by
    rw [apE_cons] at h
    cases hr : appl V E with
    | none => rw [hr] at h; cases h
    | some X => rw [hr] at h; exact apE_ok l X U h (.inl (appl_vok hr))
/-- The manifest man.n: its file has the Edits l, of which L bytes last; they make V; T: the greatest number of a file. -/
structure Mp (S : St) (T n : Nat) (l : List Ed) (L : Nat) (V : Vw) : Prop where
  dk : Dk S T
  low : 1 ≤ T
  top : lk S.names (mnm T) ≠ 0
  solo : Solo leB S n (el l) L
  eg : ∀ E ∈ l, Eg E
  ap : apE zV l = some V
  pos : 0 < l.length
theorem Mp.vok {S : St} {T n : Nat} {l : List Ed} {L : Nat} {V : Vw} (h : Mp S T n l L V) : vok V = true := apE_ok l zV V h.ap (.inr h.pos)
theorem zV_nn : Vnn zV := ⟨Int.le_refl 0, Int.le_refl 0, Int.le_refl 0, Int.le_refl 0⟩
theorem Mp.nn {S : St} {T n : Nat} {l : List Ed} {L : Nat} {V : Vw} (h : Mp S T n l L V) : Vnn V := apE_nn l zV V h.ap zV_nn h.eg
theorem solo_low {le : Nat → List Int} {S : St} {T n : Nat} {X : List Int} {L : Nat} (D : Dk S T) (so : Solo le S n X L) : 1 ≤ n ∧ n ≤ T := by
  obtain ⟨x, hx⟩ := so.all
  exact ⟨so.low.1, at_low D D.nm (hx _ D.nm).2 so.low⟩
theorem Mp.n100 {S : St} {T n : Nat} {l : List Ed} {L : Nat} {V : Vw} (h : Mp S T n l L V) : 1 ≤ n ∧ n < 100 := h.solo.low
theorem mp_new {q : Nat} {V : Vw} {S' : St} (h : NewOk leB q (whB V) S') (hv : vok V = true) (hu : Vnn V) : Mp S' 1 1 [wholeE V] (el [wholeE V]).length V :=
  ⟨h.dk, by omega, h.top, by have h2 := h.solo; unfold whB at h2; rw [el_one]; exact h2, fun E hE => by rw [List.mem_singleton.1 hE]; exact whole_may hv hu, by rw [apE_cons, appl_whole hv]; rfl, by simp⟩
theorem mp_save {S S' : St} {T n ph E1 : Nat} {l : List Ed} {L : Nat} {V U : Vw} {E : Ed} (h : Mp S T n l L V) (hE : Eg E) (ha : appl V E = some U) (hq : tot S + 1312 ≤ 250000) (hq2 : tot S + 1312 ≤ S.q) (e : saveS S (mnm n) (fr 6 (ebd E)) = (E1, ph, S')) :
    Md S E1 S' ∧ S'.calls ≤ S.calls + 2 ∧ tot S' ≤ tot S + 1312 ∧ S'.q = S.q ∧ lk S'.names = lk S.names ∧
    ((ph = 0 ∧ E1 ≠ 0 ∧ Mp S' T n l L V) ∨ (ph = 1 ∧ E1 ≠ 0 ∧ Mp S' T n (l ++ [E]) L U) ∨ (ph = 2 ∧ E1 = 0 ∧ Mp S' T n (l ++ [E]) (el (l ++ [E])).length U)) := by
  have hlen : (fr 6 (ebd E)).length ≤ 1312 := by
    have h2 := el_len [E] (fun D hD => by rw [List.mem_singleton.1 hD]; exact hE)
    rw [el_one] at h2
    exact h2
  have hel : el l ++ fr 6 (ebd E) = el (l ++ [E]) := by rw [el_app, el_one]
  obtain ⟨m, c, d, nm, t, q, r⟩ := save_ok h.dk h.solo (by omega) (by omega) e
  rw [hel] at r
  have hg : ∀ D ∈ l ++ [E], Eg D := fun D hD => by
    rcases List.mem_append.1 hD with h1 | h1
    · exact h.eg D h1
    · rw [List.mem_singleton.1 h1]; exact hE
  have hap : apE zV (l ++ [E]) = some U := apE_snoc h.ap ha
  refine ⟨m, c, by omega, q, nm, ?_⟩
  rcases r with ⟨r1, r2, r3⟩ | ⟨r1, r2, r3⟩ | ⟨r1, r2, r3⟩
  · exact .inl ⟨r1, r2, d, h.low, by rw [nm]; exact h.top, r3, h.eg, h.ap, h.pos⟩
  · exact .inr (.inl ⟨r1, r2, d, h.low, by rw [nm]; exact h.top, r3, hg, hap, by simp⟩)
  · exact .inr (.inr ⟨r1, r2, d, h.low, by rw [nm]; exact h.top, r3, hg, hap, by simp⟩)
/-- What current and the file read. -/
theorem readS_at {S : St} {T : Nat} (D : Dk S T) {s : ByteArray} {f : Fl} (hd : S.dead = false) (hok : okName s = true) (hf : fileAt S.files (lk S.names s) = some f) : readS S s = (0, f.bs) := by
  unfold readS
  rw [if_neg (by rw [hok]; simp), if_neg (by rw [hd]; simp), hf]
theorem solo_reads {le : Nat → List Int} {S : St} {T n : Nat} {X : List Int} {L : Nat} (D : Dk S T) (hd : S.dead = false) (so : Solo le S n X L) : readS S nCur = (0, le n) ∧ readS S (mnm n) = (0, X) := by
  obtain ⟨x, hx⟩ := so.all
  obtain ⟨-, g, f, h1, h2, h3, h4, h5, h6⟩ := hx _ D.nm
  exact ⟨by rw [readS_at D hd okCur h1, h2], by rw [readS_at D hd (mnm_okAll n so.low.2).1 h4, h5]⟩
theorem tk_bo (n : Nat) (hn : n < 100) : ce (leB n) = 0 ∧ kd (leB n) = 8 ∧ ln (leB n) = ((pu (n : Int)).length : Int) ∧ bo (leB n) = pu (n : Int) := by
  have hl := pu_len10 n
  have hr := pu_range n (by omega) (by omega)
  have h1 := fr_ce 8 (pu (n : Int)) [] (by decide) (by decide) (by omega) hr
  have h2 := fr_kd 8 (pu (n : Int)) []
  have h3 := fr_ln 8 (pu (n : Int)) [] (by omega)
  have h4 := fr_bo 8 (pu (n : Int)) [] (by omega)
  rw [List.append_nil] at h1 h2 h3 h4
  exact ⟨h1, h2, h3, h4⟩
theorem ldP_leB {n : Nat} (h1 : 1 ≤ n) (h2 : n < 100) : ldP (leB n) = some n := by
  obtain ⟨a, b, c, d⟩ := tk_bo n h2
  have ht := tk_pu (n : Int) [] (by omega) (by omega)
  rw [List.append_nil] at ht
  have hlen : (leB n).length = (pu (n : Int)).length + 12 := by unfold leB; exact fr_len _ _
  unfold ldP
  rw [a, b, c, d, ht, hlen]
  rw [if_pos ⟨rfl, rfl, by omega, rfl, rfl, by simp only; omega, by simp only; omega⟩]
  simp
theorem rpE_el {l : List Ed} {V : Vw} (hg : ∀ E ∈ l, Eg E) (ha : apE zV l = some V) (hp : 0 < l.length) : rpE (el l) = some (V, (el l).length) ∧ (SP ((el l).take (el l).length)).1.length = l.length := by
  refine ⟨by rw [rpE_all hg ha, if_neg (by omega)], ?_⟩
  rw [List.take_length]
  have := SP_el l hg []
  rw [List.append_nil, SP_nil] at this
  rw [this]
  simp
/-- A renewal of the View. -/
theorem mp_renew {S S' : St} {T n ph E1 : Nat} {l : List Ed} {L : Nat} {V : Vw} (h : Mp S T n l L V) (hd : S.dead = false) (h6 : T + 1 ≤ 60) (hq : tot S + 1334 ≤ 250000) (hq2 : tot S + 1334 ≤ S.q) (e : renewS S (nextS S) (whB V) (leB (nextS S)) = (E1, ph, S')) :
    nextS S = T + 1 ∧ Md S E1 S' ∧ S'.calls ≤ S.calls + 100 ∧ tot S' ≤ tot S + 1334 ∧ S'.q = S.q ∧
    ((ph = 0 ∧ E1 ≠ 0 ∧ ∃ T1, T1 ≤ T + 1 ∧ Mp S' T1 n l L V) ∨
     (ph = 1 ∧ E1 ≠ 0 ∧ Dk S' (T + 1) ∧ Am leB S'.files (lk S'.names) (T + 1) (whB V) (whB V).length ∧ ∀ N, Outs S' N → Am leB S'.files N n (el l) L ∨ Am leB S'.files N (T + 1) (whB V) (whB V).length) ∨
     (ph = 2 ∧ E1 = 0 ∧ Mp S' (T + 1) (T + 1) [wholeE V] (el [wholeE V]).length V ∧ (S.stop = 0 → S.fail = 0 → ∀ t, lk S'.names t ≠ 0 → t = nCur ∨ t = mnm (T + 1)))) := by
  have hn := next_eq h.dk hd h.top
  rw [hn] at e
  have hw := (whB_facts (whole_may h.vok h.nn)).2
  have hz := leB_len (T + 1)
  obtain ⟨m, c, t, q, ⟨T1, hT1, D1, l1⟩, r⟩ := renew_ok h.dk h6 hd h.solo h.top h.low (by omega) (by omega) e
  refine ⟨hn, m, c, by omega, q, ?_⟩
  rcases r with ⟨r1, r2, r3⟩ | ⟨r1, r2, r3, r4⟩ | ⟨r1, r2, r3, r4⟩
  · exact .inl ⟨r1, r2, T1, by omega, D1, by have := h.low; omega, l1, r3, h.eg, h.ap, h.pos⟩
  · refine .inr (.inl ⟨r1, r2, ?_, r3, r4⟩)
    rcases hT1 with h1 | h1
    · exfalso
      have := at_low D1 D1.nm r3 ⟨by omega, by omega⟩
      omega
    · rw [h1] at D1; exact D1
  · have hT2 : T1 = T + 1 := by
      rcases hT1 with h1 | h1
      · exfalso
        have := (solo_low D1 r3).2
        omega
      · exact h1
    subst hT2
    exact .inr (.inr ⟨r1, r2, ⟨D1, by omega, l1, by have h2 := r3; unfold whB at h2; rw [el_one]; exact h2, fun E hE => by rw [List.mem_singleton.1 hE]; exact whole_may h.vok h.nn, by rw [apE_cons, appl_whole h.vok]; rfl, by simp⟩, r4⟩)
/-- The steps of a renewal keep the Disk one of a manifest. -/
theorem mp_steps {S : St} {T n : Nat} {X : List Int} {L : Nat} {V : Vw} (D : Dk S T) (so : Solo leB S n X L) (hT : lk S.names (mnm T) ≠ 0) (hw : (whB V).length ≤ 1312) (hd : S.dead = false) (h6 : T + 1 ≤ 60) (hq : tot S + 1334 ≤ 250000) (hq2 : tot S + 1334 ≤ S.q) :
    (1 ≤ nextS S ∧ nextS S < 100) ∧ (∀ E1 S1, layS S (mnm (nextS S)) (whB V) = (E1, S1) → ∃ T1, Dk S1 T1) ∧ (∀ S4, preS S (nextS S) (whB V) (leB (nextS S)) = (0, 2, S4) → ∃ T4, Dk S4 T4) := by
  have hn := next_eq D hd hT
  rw [hn]
  have hz := leB_len (T + 1)
  refine ⟨⟨by omega, by omega⟩, fun E1 S1 e1 => ?_, fun S4 e4 => ?_⟩
  · have hfree : lk S.names (mnm (T + 1)) = 0 := Classical.byContradiction fun h => by
      rcases D.now.sup _ h with h | h | ⟨k, h2, h3, h⟩
      · exact mnm_cur (by omega) (by omega) h
      · exact mnm_frs (by omega) (by omega) h
      · have := mnm_inj (by omega) (by omega) h; omega
    obtain ⟨m1, c1, k1, d1, t1, s1⟩ := lay_ok D (Nat.le_succ _) h6 (.inr (.inr ⟨T + 1, by omega, Nat.le_refl _, rfl⟩)) (mnm_okAll _ (by omega)).1 (fun _ => hfree) (by omega) (by omega) e1
    rcases d1 with h | h
    · exact ⟨_, h.2.1⟩
    · exact ⟨_, h.1⟩
  · obtain ⟨m, c, t, q, ⟨T1, hT1, D1, l1⟩, r⟩ := pre_ok D h6 hd so (by omega) (by omega) e4
    exact ⟨T1, D1⟩

end Go.Proofs.YtcahlmneancapaaGreatDoor.Clep
