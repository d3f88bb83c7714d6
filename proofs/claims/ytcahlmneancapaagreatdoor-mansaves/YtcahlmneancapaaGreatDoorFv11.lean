/- The steps of a renewal, as functions of a Disk, up to the names that last. Up to 60 files, 250,000 bytes. -/
import Derived.Test.YtcahlmneancapaaGreatDoorFv10
import Derived.Test.YtcahlmneancapaaGreatDoorFv08
import Derived.Test.YtcahlmneancapaaGreatDoorFv03
import Derived.Deep.Heap
import Derived.Laws.NewBlocks
import Derived.Test.YtcahlmneancapaaGreatDoorFv00
import Derived.Tactics
import Derived.Tactics2
import Derived.Defers
import Derived.Laws.Pointers
import Derived.Laws.LoneSync
import Derived.RegionTactic
import Derived.RegionCalls
namespace Go.Proofs.YtcahlmneancapaaGreatDoor.Clep
open Go.RowKit Go.Maps Go.Sort
set_option linter.unusedVariables false
set_option maxRecDepth 10000

/-- A file made, of these bytes, which last. -/
def layS (S : St) (s : ByteArray) (zs : List Int) : Nat × St := match createS S s with
  | (E1, S1) => if E1 ≠ 0 then (E1, S1) else match appendS S1 s zs with
    | (E2, S2) => if E2 ≠ 0 then (E2, S2) else syncS S2 s
theorem lay_ok {S S' : St} {T T' E : Nat} {s : ByteArray} {zs : List Int} (D : Dk S T) (ht : T ≤ T') (h6 : T' ≤ 60) (hs : okM T' s) (hok : okName s = true) (h0 : S.dead = false → lk S.names s = 0)
    (hq : tot S + zs.length ≤ 250000) (hq2 : tot S + zs.length ≤ S.q) (e : layS S s zs = (E, S')) :
    Md S E S' ∧ S'.calls ≤ S.calls + 3 ∧ Kpt s S S' ∧ ((E ≠ 0 ∧ Dk S' T ∧ lk S'.names = lk S.names) ∨ (Dk S' T' ∧ lk S'.names s ≠ 0)) ∧ tot S' ≤ tot S + zs.length ∧ (E = 0 → Slot S' s zs zs.length) := by
  unfold layS at e
  obtain ⟨E1, S1, e1⟩ : ∃ E1 S1, createS S s = (E1, S1) := ⟨_, _, rfl⟩
  rw [e1] at e
  simp only at e
  have O1 := create_op D hok h0 e1
  have m1 := O1.md
  have c1 := O1.calls
  rcases O1.res with ⟨n1, q1⟩ | ⟨rfl, B, q1, r1⟩
  · rw [if_pos n1] at e
    injection e with e e'
    subst e e'
    exact ⟨m1, by omega, q1.kp s, .inl ⟨n1, q1.dk D, by rw [q1.names]⟩, by unfold tot; rw [q1.files]; omega, fun h => absurd h n1⟩
  rw [if_neg (by simp)] at e
  try simp only at r1
  obtain ⟨k1, sl1, D1, l1, t1⟩ := add_kp (q1.dk D) ht h6 hs
  rw [← r1] at k1 sl1 D1 l1 t1
  have K1 : Kpt s S S1 := (q1.kp s).trans k1
  have tB : tot B = tot S := by unfold tot; rw [q1.files]
  obtain ⟨f, hf, f1, f2, f3⟩ := sl1
  obtain ⟨E2, S2, e2⟩ : ∃ E2 S2, appendS S1 s zs = (E2, S2) := ⟨_, _, rfl⟩
  rw [e2] at e
  simp only at e
  have O2 := append_op D1 hok hf (by omega) (by rw [K1.q]; omega) e2
  have c2 := O2.calls
  have m2 := m1.trans O2.md
  rcases O2.res with ⟨n2, q2⟩ | ⟨rfl, B2, q2, r2⟩
  · rw [if_pos n2] at e
    injection e with e e'
    subst e e'
    exact ⟨m2, by omega, K1.trans (q2.kp s), .inr ⟨q2.dk D1, by rw [q2.names]; exact l1⟩, by unfold tot at *; rw [q2.files]; omega, fun h => absurd h n2⟩
  rw [if_neg (by simp)] at e
  try simp only at r2
  obtain ⟨k2, D2, sl2, t2⟩ := upd_kp (q2.dk D1) (s := s) (f := f) (g := growF zs) (by rw [q2.files, q2.names]; exact hf) (by unfold Ow at *; rw [q2.names, q2.outs]; exact f3) (fun f => rfl) (fun f h => by simp [growF]; omega)
  rw [← r2] at k2 D2 sl2 t2
  have K2 : Kpt s S S2 := K1.trans ((q2.kp s).trans k2)
  have t2' := t2 zs.length (fun f => by simp [growF])
  have tB2 : tot B2 = tot S1 := by unfold tot; rw [q2.files]
  obtain ⟨f', hf', g1, g2, g3⟩ := sl2
  have O3 := sync_op hok hf' e
  have c3 := O3.calls
  have m3 := m2.trans O3.md
  have l2 : lk S2.names s ≠ 0 := by rw [r2]; show lk B2.names s ≠ 0; rw [q2.names]; exact l1
  rcases O3.res with ⟨n3, q3⟩ | ⟨rfl, B3, q3, r3⟩
  · exact ⟨m3, by omega, K2.trans (q3.kp s), .inr ⟨q3.dk D2, by rw [q3.names]; exact l2⟩, by unfold tot at *; rw [q3.files]; omega, fun h => absurd h n3⟩
  try simp only at r3
  obtain ⟨k3, D3, sl3, t3⟩ := upd_kp (q3.dk D2) (s := s) (f := f') (g := lastF) (by rw [q3.files, q3.names]; exact hf') (by unfold Ow at *; rw [q3.names, q3.outs]; exact g3) (fun f => rfl) (fun f h => Nat.le_refl _)
  rw [← r3] at k3 D3 sl3 t3
  have t3' := t3 0 (fun f => by simp [lastF])
  have tB3 : tot B3 = tot S2 := by unfold tot; rw [q3.files]
  have hb : f'.bs = zs := by rw [g1]; simp [growF, f1]
  refine ⟨m3, by omega, K2.trans ((q3.kp s).trans k3), .inr ⟨D3, by rw [r3]; show lk B3.names s ≠ 0; rw [q3.names]; exact l2⟩, by omega, fun _ => ?_⟩
  have e1 : (lastF f').bs = zs := hb
  have e2 : (lastF f').lasts = zs.length := by show f'.bs.length = _; rw [hb]
  rw [e1, e2] at sl3
  exact sl3

/-- Is the name told by List? -/
def hasL (S : St) (s : ByteArray) : Bool := !S.dead && Maps.has S.names (key s)
/-- What becomes current is laid beside it. -/
def prepS (S : St) (Z : List Int) : Nat × St := match (if hasL S nFrs = true then rmvS S nFrs else (0, S)) with
  | (E1, S1) => if E1 ≠ 0 then (E1, S1) else match layS S1 nFrs Z with
    | (E2, S2) => if E2 ≠ 0 then (E2, S2) else syncDirS S2
theorem md_refl (S : St) (h : S.dead = false) : Md S 0 S := ⟨fun a b => ⟨a, b, .inl rfl⟩, fun a => ⟨a, .inl rfl⟩, fun a => by rw [h] at a; cases a⟩
theorem prep_ok {S S' : St} {T E : Nat} {Z : List Int} (D : Dk S T) (hq : tot S + Z.length ≤ 250000) (hq2 : tot S + Z.length ≤ S.q) (e : prepS S Z = (E, S')) :
    Md S E S' ∧ S'.calls ≤ S.calls + 5 ∧ Kpt nFrs S S' ∧ Dk S' T ∧ tot S' ≤ tot S + Z.length ∧ (E = 0 → Slot S' nFrs Z Z.length ∧ ∀ N, Outs S' N → N = lk S'.names) := by
  unfold prepS at e
  have hfr : okM T nFrs := .inr (.inl rfl)
  -- the last two steps
  have rest : ∀ S1, Dk S1 T → (S1.dead = false → lk S1.names nFrs = 0) → tot S1 = tot S → S1.q = S.q → (∀ S2 E2, (layS S1 nFrs Z = (E2, S2)) → (if E2 ≠ 0 then (E2, S2) else syncDirS S2) = (E, S') →
      Md S1 E S' ∧ S'.calls ≤ S1.calls + 4 ∧ Kpt nFrs S1 S' ∧ Dk S' T ∧ tot S' ≤ tot S + Z.length ∧ (E = 0 → Slot S' nFrs Z Z.length ∧ ∀ N, Outs S' N → N = lk S'.names)) := by
    intro S1 D1 h0 ht1 hq1 S2 E2 e2 e
    obtain ⟨m2, c2, k2, d2, t2, s2⟩ := lay_ok D1 (Nat.le_refl _) D1.sm hfr okFrs h0 (by omega) (by omega) e2
    have D2 : Dk S2 T := by rcases d2 with h | h; exact h.2.1; exact h.1
    by_cases n2 : E2 = 0
    · subst n2
      rw [if_neg (by simp)] at e
      have O3 := syncDir_op e
      have c3 := O3.calls
      have m3 := m2.trans O3.md
      rcases O3.res with ⟨n3, q3⟩ | ⟨rfl, B3, q3, r3⟩
      · exact ⟨m3, by omega, k2.trans (q3.kp nFrs), q3.dk D2, by unfold tot at *; rw [q3.files]; omega, fun h => absurd h n3⟩
      · obtain ⟨k3, D3, t3⟩ := settle_kp (q3.dk D2) nFrs
        rw [← r3] at k3 D3 t3
        have tB3 : tot B3 = tot S2 := by unfold tot; rw [q3.files]
        -- the slot itself: its name is kept
        have D2' := q3.dk D2
        have hS : Slot B3 nFrs Z Z.length := by unfold Slot Ow at *; rw [q3.files, q3.names, q3.outs]; exact s2 rfl
        have h0 := slot_fl D2' hS
        obtain ⟨f', hf', e1, e2, e3⟩ := hS
        have hO := (settle_dk D2').2
        refine ⟨m3, by omega, k2.trans ((q3.kp nFrs).trans k3), D3, by omega, fun _ => ⟨⟨f', ?_, e1, e2, fun N hN u e => ?_⟩, fun N hN => ?_⟩⟩
        · rw [r3]; exact (settle_at B3 D2'.hn h0).trans hf'
        · rw [r3] at hN e; rw [hO N hN] at e; exact e3 _ D2'.nm u e
        · rw [r3] at hN ⊢; exact hO N hN
    · rw [if_pos n2] at e
      injection e with e e'
      subst e e'
      exact ⟨m2, by omega, k2, D2, by omega, fun h => absurd h n2⟩
  by_cases hh : hasL S nFrs = true
  · rw [if_pos hh] at e
    unfold hasL at hh
    have hd : S.dead = false := by cases h : S.dead with | false => rfl | true => rw [h] at hh; simp at hh
    have hl : lk S.names nFrs ≠ 0 := (D.hn.has nFrs).1 (by simpa [hd] using hh)
    obtain ⟨f, hf⟩ := D.now.leads nFrs hl
    obtain ⟨E1, S1, e1⟩ : ∃ E1 S1, rmvS S nFrs = (E1, S1) := ⟨_, _, rfl⟩
    rw [e1] at e
    simp only at e
    have O1 := remove_op okFrs hf e1
    have c1 := O1.calls
    have m1 := O1.md
    rcases O1.res with ⟨n1, q1⟩ | ⟨rfl, B, q1, r1⟩
    · rw [if_pos n1] at e
      injection e with e e'
      subst e e'
      exact ⟨m1, by omega, q1.kp _, q1.dk D, by unfold tot; rw [q1.files]; omega, fun h => absurd h n1⟩
    · rw [if_neg (by simp)] at e
      obtain ⟨k1, D1, l1⟩ := rmv_kp (q1.dk D) nFrs
      try simp only at r1
      rw [← r1] at k1 D1 l1
      have K1 := (q1.kp nFrs).trans k1
      have t1 : tot S1 = tot S := by rw [r1]; unfold tot; show totF B.files = _; rw [q1.files]
      obtain ⟨E2, S2, e2⟩ : ∃ E2 S2, layS S1 nFrs Z = (E2, S2) := ⟨_, _, rfl⟩
      rw [e2] at e
      obtain ⟨a1, a2, a3, a4, a5, a6⟩ := rest S1 D1 (fun _ => l1) t1 K1.q S2 E2 e2 e
      exact ⟨m1.trans a1, by omega, K1.trans a3, a4, a5, a6⟩
  · rw [if_neg hh] at e
    simp only at e
    rw [if_neg (by simp)] at e
    obtain ⟨E2, S2, e2⟩ : ∃ E2 S2, layS S nFrs Z = (E2, S2) := ⟨_, _, rfl⟩
    rw [e2] at e
    obtain ⟨a1, a2, a3, a4, a5, a6⟩ := rest S D (fun hd => Classical.byContradiction fun h => hh (by unfold hasL; rw [hd, (D.hn.has nFrs).2 h]; rfl)) rfl rfl S2 E2 e2 e
    exact ⟨a1, by omega, a3, a4, a5, a6⟩

/-- The steps of a renewal up to the names' lasting; ahead of how much of it: 0: current is the elder one, 1: the newer one, 2: and that lasts. -/
def preS (S : St) (n : Nat) (W Z : List Int) : Nat × Nat × St := match layS S (mnm n) W with
  | (E1, S1) => if E1 ≠ 0 then (E1, 0, S1) else match prepS S1 Z with
    | (E2, S2) => if E2 ≠ 0 then (E2, 0, S2) else match renS S2 nFrs nCur with
      | (E3, S3) => if E3 ≠ 0 then (E3, 0, S3) else match syncDirS S3 with
        | (E4, S4) => if E4 ≠ 0 then (E4, 1, S4) else (0, 2, S4)
theorem Am.congr {le : Nat → List Int} {fs fs' : List Fl} {N N' : ByteArray → Int} {n : Nat} {X : List Int} {L : Nat} (h : Am le fs N n X L) (h1 : fileAt fs' (N' nCur) = fileAt fs (N nCur)) (h2 : fileAt fs' (N' (mnm n)) = fileAt fs (N (mnm n))) : Am le fs' N' n X L := by
  obtain ⟨g, f, a, b, c, d, e1, e2⟩ := h
  exact ⟨g, f, h1.trans a, b, c, h2.trans d, e1, e2⟩
theorem pre_ok {le : Nat → List Int} {S S' : St} {T E ph n0 : Nat} {W X : List Int} {L : Nat} (D : Dk S T) (h6 : T + 1 ≤ 60) (hd : S.dead = false) (hso : Solo le S n0 X L)
    (hq : tot S + W.length + (le (T + 1)).length ≤ 250000) (hq2 : tot S + W.length + (le (T + 1)).length ≤ S.q) (e : preS S (T + 1) W (le (T + 1)) = (E, ph, S')) :
    Md S E S' ∧ S'.calls ≤ S.calls + 10 ∧ tot S' ≤ tot S + W.length + (le (T + 1)).length ∧ S'.q = S.q ∧
    (∃ T1, (T1 = T ∨ T1 = T + 1) ∧ Dk S' T1 ∧ (lk S.names (mnm T) ≠ 0 → 1 ≤ T → lk S'.names (mnm T1) ≠ 0)) ∧
    ((ph = 0 ∧ E ≠ 0 ∧ Solo le S' n0 X L) ∨ (ph = 1 ∧ E ≠ 0 ∧ Am le S'.files (lk S'.names) (T + 1) W W.length ∧ ∀ N, Outs S' N → Am le S'.files N n0 X L ∨ Am le S'.files N (T + 1) W W.length) ∨
      (ph = 2 ∧ E = 0 ∧ Solo le S' (T + 1) W W.length ∧ lk S'.names nFrs = 0)) := by
  unfold preS at e
  have hn0 : n0 ≤ T := by
    obtain ⟨x, hx⟩ := hso.all
    have h1 := (at_fl D (hx _ D.nm).2).2.1
    rcases D.now.sup _ h1 with h | h | ⟨k, h2, h3, h⟩
    · exact absurd h (mnm_cur hso.low.2 hso.low.1)
    · exact absurd h (mnm_frs hso.low.2 hso.low.1)
    · rw [mnm_inj hso.low.2 (by omega) h]; exact h3
  have i1 : mnm (T + 1) ≠ nCur := mnm_cur (by omega) (by omega)
  have i2 : mnm (T + 1) ≠ nFrs := mnm_frs (by omega) (by omega)
  have i3 : mnm (T + 1) ≠ mnm n0 := fun h => by have := mnm_inj (by omega) hso.low.2 h; omega
  have i4 : mnm n0 ≠ nFrs := mnm_frs hso.low.2 hso.low.1
  have hfree : lk S.names (mnm (T + 1)) = 0 := Classical.byContradiction fun h => by
    rcases D.now.sup _ h with h | h | ⟨k, h2, h3, h⟩
    · exact i1 h
    · exact i2 h
    · have := mnm_inj (by omega) (by omega) h; omega
  have hmT : 1 ≤ T → mnm T ≠ mnm (T + 1) := fun h1 h => by have := mnm_inj (by omega) (by omega) h; omega
  have hmF : 1 ≤ T → mnm T ≠ nFrs := fun h1 => mnm_frs (by omega) h1
  obtain ⟨E1, S1, e1⟩ : ∃ E1 S1, layS S (mnm (T + 1)) W = (E1, S1) := ⟨_, _, rfl⟩
  rw [e1] at e
  simp only at e
  obtain ⟨m1, c1, k1, d1, t1, s1⟩ := lay_ok D (Nat.le_succ _) h6 (.inr (.inr ⟨T + 1, by omega, Nat.le_refl _, rfl⟩)) (mnm_okAll _ (by omega)).1 (fun _ => hfree) (by omega) (by omega) e1
  have so1 := k1.solo le n0 X L i1 i3 hso
  by_cases n1 : E1 = 0
  case neg =>
    rw [if_pos n1] at e
    injection e with ea eb
    injection eb with eb ec
    subst ea eb ec
    refine ⟨m1, by omega, by omega, k1.q, ?_, .inl ⟨rfl, n1, so1⟩⟩
    rcases d1 with ⟨_, h1, h2⟩ | ⟨h1, h2⟩
    · exact ⟨T, .inl rfl, h1, fun h _ => by rw [h2]; exact h⟩
    · exact ⟨T + 1, .inr rfl, h1, fun _ _ => h2⟩
  subst n1
  rw [if_neg (by simp)] at e
  have D1 : Dk S1 (T + 1) := by rcases d1 with h | h; exact absurd rfl h.1; exact h.1
  have l1 : lk S1.names (mnm (T + 1)) ≠ 0 := by rcases d1 with h | h; exact absurd rfl h.1; exact h.2
  obtain ⟨E2, S2, e2⟩ : ∃ E2 S2, prepS S1 (le (T + 1)) = (E2, S2) := ⟨_, _, rfl⟩
  rw [e2] at e
  simp only at e
  obtain ⟨m2, c2, k2, D2, t2, s2⟩ := prep_ok D1 (by omega) (by rw [k1.q]; omega) e2
  have so2 := k2.solo le n0 X L cur_frs.symm i4.symm so1
  have sw2 := k2.slot _ _ _ i2 (s1 rfl)
  have l2 : lk S2.names (mnm (T + 1)) ≠ 0 := by rw [k2.live _ i2]; exact l1
  have M2 := m1.trans m2
  by_cases n2 : E2 = 0
  case neg =>
    rw [if_pos n2] at e
    injection e with ea eb
    injection eb with eb ec
    subst ea eb ec
    exact ⟨M2, by omega, by omega, k2.q.trans k1.q, ⟨T + 1, .inr rfl, D2, fun _ _ => l2⟩, .inl ⟨rfl, n2, so2⟩⟩
  subst n2
  rw [if_neg (by simp)] at e
  obtain ⟨sf2, ho2⟩ := s2 rfl
  obtain ⟨E3, S3, e3⟩ : ∃ E3 S3, renS S2 nFrs nCur = (E3, S3) := ⟨_, _, rfl⟩
  rw [e3] at e
  simp only at e
  have hfr := slot_fl D2 sf2
  obtain ⟨g, hg, g1, g2, g3⟩ := sf2
  obtain ⟨f, hf, f1, f2, f3⟩ := sw2
  have O3 := rename_op okFrs okCur cur_frs.symm hg e3
  have c3 := O3.calls
  have M3 := M2.trans O3.md
  rcases O3.res with ⟨n3, q3⟩ | ⟨rfl, B, q3, r3⟩
  · rw [if_pos n3] at e
    injection e with ea eb
    injection eb with eb ec
    subst ea eb ec
    exact ⟨M3, by omega, by unfold tot at *; rw [q3.files]; omega, q3.q.trans (k2.q.trans k1.q), ⟨T + 1, .inr rfl, q3.dk D2, fun _ _ => by rw [q3.names]; exact l2⟩, .inl ⟨rfl, n3, (q3.kp nFrs).solo le n0 X L cur_frs.symm i4.symm so2⟩⟩
  rw [if_neg (by simp)] at e
  try simp only at r3
  have DB := q3.dk D2
  have hoB : ∀ N, Outs B N → N = lk B.names := fun N hN => by rw [q3.outs] at hN; rw [q3.names]; exact ho2 N hN
  obtain ⟨D3, l3, o3⟩ := ren_dk DB nFrs nCur cur_frs.symm (.inl rfl) (fun N hN => by rw [hoB N hN, q3.names]; exact hfr)
  rw [← r3] at D3 l3 o3
  have t3 : tot S3 = tot S2 := by rw [r3]; unfold tot; show totF B.files = _; rw [q3.files]
  have fl3 : S3.files = S2.files := by rw [r3]; exact q3.files
  have lc : lk S3.names nCur = lk S2.names nFrs := by rw [l3]; simp [q3.names]
  have lm : lk S3.names (mnm (T + 1)) = lk S2.names (mnm (T + 1)) := by rw [l3]; simp [q3.names, i1, i2]
  have lf : lk S3.names nFrs = 0 := by rw [l3]; simp [cur_frs.symm]
  have A3 : Am le S3.files (lk S3.names) (T + 1) W W.length := ⟨g, f, by rw [fl3, lc]; exact hg, g1, by rw [g2, g1], by rw [fl3, lm]; exact hf, f1, f2⟩
  have lm0 : lk S3.names (mnm (T + 1)) ≠ 0 := by rw [lm]; exact l2
  have out3 : ∀ N, Outs S3 N → Am le S3.files N n0 X L ∨ Am le S3.files N (T + 1) W W.length := fun N hN => by
    rcases o3 N hN with h | ⟨M, hM, rfl⟩
    · have := hoB N h
      rw [q3.outs] at h
      obtain ⟨x, hx⟩ := so2.all
      rw [fl3]
      exact .inl (hx N h).2
    · have := hoB M hM
      subst this
      refine .inr ?_
      rw [l3] at A3
      exact A3
  obtain ⟨E4, S4, e4⟩ : ∃ E4 S4, syncDirS S3 = (E4, S4) := ⟨_, _, rfl⟩
  rw [e4] at e
  simp only at e
  have O4 := syncDir_op e4
  have c4 := O4.calls
  have M4 := M3.trans O4.md
  have Q3 : S3.q = S.q := by rw [r3]; exact q3.q.trans (k2.q.trans k1.q)
  rcases O4.res with ⟨n4, q4⟩ | ⟨rfl, B4, q4, r4⟩
  · rw [if_pos n4] at e
    injection e with ea eb
    injection eb with eb ec
    subst ea eb ec
    refine ⟨M4, by omega, by unfold tot at *; rw [q4.files]; omega, q4.q.trans Q3, ⟨T + 1, .inr rfl, q4.dk D3, fun _ _ => by rw [q4.names]; exact lm0⟩, .inr (.inl ⟨rfl, n4, by rw [q4.files, q4.names]; exact A3, fun N hN => ?_⟩)⟩
    rw [q4.outs] at hN
    rw [q4.files]
    exact out3 N hN
  · rw [if_neg (by simp)] at e
    injection e with ea eb
    injection eb with eb ec
    subst ea eb ec
    have D4' := q4.dk D3
    obtain ⟨k4, D4, t4⟩ := settle_kp D4' nFrs
    have hO := (settle_dk D4').2
    rw [← r4] at k4 D4 t4 hO
    have tB4 : tot B4 = tot S3 := by unfold tot; rw [q4.files]
    have ln4 : lk S4.names = lk S3.names := by rw [r4]; show lk B4.names = _; rw [q4.names]
    have hc0 : lk S3.names nCur ≠ 0 := by rw [lc]; exact hfr
    have A4 : Am le S4.files (lk S4.names) (T + 1) W W.length := by
      refine A3.congr ?_ ?_
      · rw [ln4, ← q4.files, ← q4.names, r4]; exact settle_at B4 D4'.hn (by rw [q4.names]; exact hc0)
      · rw [ln4, ← q4.files, ← q4.names, r4]; exact settle_at B4 D4'.hn (by rw [q4.names]; exact lm0)
    refine ⟨M4, by omega, by omega, k4.q.trans (q4.q.trans Q3), ⟨T + 1, .inr rfl, D4, fun _ _ => by rw [ln4]; exact lm0⟩, .inr (.inr ⟨rfl, rfl, ⟨⟨lk S4.names (mnm (T + 1)), fun N hN => ?_⟩, by omega, by omega⟩, by rw [ln4]; exact lf⟩)⟩
    have := hO N hN
    have h2 : lk B4.names = lk S4.names := by rw [ln4, q4.names]
    rw [this, h2]
    exact ⟨rfl, A4⟩

end Go.Proofs.YtcahlmneancapaaGreatDoor.Clep

/- The next number, the sweep of elder files, a whole renewal, an Edit laid behind the others: as functions of a Disk. Up to 60 files, 250,000 bytes. -/
namespace Go.Proofs.YtcahlmneancapaaGreatDoor.Clep
open Go.RowKit Go.Maps Go.Sort
set_option linter.unusedVariables false
set_option maxRecDepth 10000

def strB (l : List UInt8) : ByteArray := ⟨l.toArray⟩
theorem strB_key (s : ByteArray) : strB s.data.toList = s := by cases s; simp [strB]
theorem names_mem (S : St) (h : HL S.names) (l : List UInt8) : l ∈ namesL S ↔ lk S.names (strB l) ≠ 0 := by
  rw [← h.has]
  unfold namesL
  rw [List.mem_mergeSort]
  have e : key (strB l) = .string l := by unfold key strB; simp
  rw [e]
  obtain ⟨es, he, hT⟩ := h.tidy
  have hk : ∀ p ∈ es, ∃ s, p.1 = key s := fun p hp => h.keys p (by rw [he]; exact hp)
  rw [he, has_eq, List.any_eq_true]
  show l ∈ es.map (fun p => strOf p.1) ↔ _
  rw [List.mem_map]
  refine ⟨fun ⟨p, hp, e⟩ => ⟨p, hp, ?_⟩, fun ⟨p, hp, e⟩ => ⟨p, hp, ?_⟩⟩
  · obtain ⟨s, hs⟩ := hk p hp
    rw [hs] at e ⊢
    rw [← e]
    exact WideAt.sameKey_self (key_is s)
  · rw [WideAt.sameKey_eq e]; rfl
/-- The greatest number of a manifest's file among these names, or m. -/
def mostL : List (List UInt8) → Nat → Nat
  | [], m => m
  | l :: r, m => mostL r (max m (numM (strB l)))
def nextS (S : St) : Nat := mostL (if S.dead then [] else namesL S) 0 + 1
theorem most_le : ∀ (l : List (List UInt8)) (m T : Nat), m ≤ T → (∀ x ∈ l, numM (strB x) ≤ T) → mostL l m ≤ T
  | [], _, _, h, _ => h
  | x :: r, m, T, h, hl => most_le r _ T (Nat.max_le.2 ⟨h, hl x List.mem_cons_self⟩) (fun y hy => hl y (List.mem_cons_of_mem _ hy))
theorem most_ge : ∀ (l : List (List UInt8)) (m : Nat), m ≤ mostL l m ∧ ∀ x ∈ l, numM (strB x) ≤ mostL l m
  | [], m => ⟨Nat.le_refl _, fun x hx => by cases hx⟩
  | y :: r, m => by
    obtain ⟨h1, h2⟩ := most_ge r (max m (numM (strB y)))
    refine ⟨Nat.le_trans (Nat.le_max_left _ _) h1, fun x hx => ?_⟩
    rcases List.mem_cons.1 hx with rfl | hx
    · exact Nat.le_trans (Nat.le_max_right _ _) h1
    · exact h2 x hx
theorem numM_ok {T : Nat} {s : ByteArray} (h : okM T s) (ht : T ≤ 60) : numM s ≤ T := by
  rcases h with rfl | rfl | ⟨k, h1, h2, rfl⟩
  · rw [numM_cur]; omega
  · rw [numM_frs]; omega
  · rw [numM_mnm (by omega)]; exact h2
theorem next_eq {S : St} {T : Nat} (D : Dk S T) (hd : S.dead = false) (hT : lk S.names (mnm T) ≠ 0) : nextS S = T + 1 := by
  unfold nextS
  rw [hd]
  have h1 := most_le (namesL S) 0 T (by omega) (fun x hx => numM_ok (D.now.sup _ ((names_mem S D.hn x).1 hx)) D.sm)
  have h2 := (most_ge (namesL S) 0).2 (mnm T).data.toList ((names_mem S D.hn _).2 (by rw [strB_key]; exact hT))
  rw [strB_key, numM_mnm (by have := D.sm; omega)] at h2
  show mostL (namesL S) 0 + 1 = T + 1
  omega
theorem next_dead {S : St} (hd : S.dead = true) : nextS S = 1 := by unfold nextS; rw [hd]; rfl

/-- What calls leave of what is counted, whatever they tell. -/
structure Mo (S S' : St) : Prop where
  fm : S.stop = 0 → S.dead = false → S'.stop = 0 ∧ S'.dead = false
  sm : S.fail = 0 → S'.fail = 0
  dd : S.dead = true → S'.dead = true
theorem Mo.refl (S : St) : Mo S S := ⟨fun a b => ⟨a, b⟩, fun a => a, fun a => a⟩
theorem Mo.trans {A B C : St} (h : Mo A B) (k : Mo B C) : Mo A C := ⟨fun a b => k.fm (h.fm a b).1 (h.fm a b).2, fun a => k.sm (h.sm a), fun a => k.dd (h.dd a)⟩
theorem Md.mo {S S' : St} {E : Nat} (h : Md S E S') : Mo S S' := ⟨fun a b => ⟨(h.fm a b).1, (h.fm a b).2.1⟩, fun a => (h.sm a).1, fun a => (h.dd a).1⟩
theorem Md.then {S S1 S2 : St} (h : Md S 0 S1) (k : Mo S1 S2) : Md S 0 S2 :=
  ⟨fun a b => ⟨(k.fm (h.fm a b).1 (h.fm a b).2.1).1, (k.fm (h.fm a b).1 (h.fm a b).2.1).2, .inl rfl⟩, fun a => ⟨k.sm (h.sm a).1, .inl rfl⟩, fun a => absurd (h.dd a).2 (by decide)⟩
theorem rmv_any {S : St} {T : Nat} (D : Dk S T) (s : ByteArray) : Mo S (rmvS S s).2 ∧ (rmvS S s).2.calls ≤ S.calls + 1 ∧ (Eqf S (rmvS S s).2 ∨ ∃ B, Eqf S B ∧ (rmvS S s).2 = chgS B ⟨2, s, ⟨#[]⟩, 0⟩) ∧
    (S.stop = 0 → S.dead = false → S.fail = 0 → okName s = true → lk S.names s ≠ 0 → ∃ B, Eqf S B ∧ (rmvS S s).2 = chgS B ⟨2, s, ⟨#[]⟩, 0⟩) := by
  by_cases hok : okName s = true
  · by_cases h0 : lk S.names s = 0
    · have hz : (rmvS S s).2 = (beginS S).2 := by
        obtain ⟨k1, k2, k3, k4, k5, k6, k7⟩ := begin_keeps S
        unfold rmvS
        rw [if_neg (show ¬ okName s = false by rw [hok]; simp)]
        split
        · rfl
        · rw [k3, k4, h0, D.zero]; rfl
      rw [hz]
      exact ⟨(md_begin S).mo, by rw [(begin_keeps S).1]; omega, .inl (eqf_begin S), fun _ _ _ _ h => absurd h0 h⟩
    · obtain ⟨f, hf⟩ := D.now.leads s h0
      have O := remove_op hok hf (E := (rmvS S s).1) (S' := (rmvS S s).2) rfl
      refine ⟨O.md.mo, by rw [O.calls]; omega, ?_, fun a b c _ _ => ?_⟩
      · rcases O.res with h | h
        · exact .inl h.2
        · exact .inr h.2
      · rcases O.res with h | h
        · have h1 := (O.md.fm a b).2.2
          have h2 := (O.md.sm c).2
          exfalso
          rcases h1 with h1 | h1
          · exact h.1 h1
          · rcases h2 with h2 | h2
            · exact h.1 h2
            · rw [h1.1] at h2; exact absurd h2.1 (by decide)
        · exact h.2
  · have hz : rmvS S s = (10, S) := by unfold rmvS; rw [if_pos (by simpa using hok)]
    rw [hz]
    exact ⟨Mo.refl S, Nat.le_succ _, .inl (Eqf.refl S), fun _ _ _ h => absurd h hok⟩
/-- The elder files are taken away, as far as it may be. -/
def sweepL (n : Nat) : List (List UInt8) → St → St
  | [], S => S
  | l :: r, S => sweepL n r (if numM (strB l) ≠ 0 ∧ numM (strB l) ≠ n then (rmvS S (strB l)).2 else S)
theorem sweep_ok {le : Nat → List Int} {T n : Nat} {X : List Int} {L : Nat} : ∀ (l : List (List UInt8)) (S : St), Dk S T → Solo le S n X L → lk S.names (mnm n) ≠ 0 →
    Mo S (sweepL n l S) ∧ (sweepL n l S).calls ≤ S.calls + l.length ∧ Dk (sweepL n l S) T ∧ Solo le (sweepL n l S) n X L ∧ lk (sweepL n l S).names (mnm n) ≠ 0 ∧ tot (sweepL n l S) = tot S ∧ (sweepL n l S).q = S.q ∧
    (∀ t, lk (sweepL n l S).names t ≠ 0 → lk S.names t ≠ 0) ∧
    (S.stop = 0 → S.dead = false → S.fail = 0 → (∀ x ∈ l, okName (strB x) = true) → ∀ x ∈ l, numM (strB x) ≠ 0 → numM (strB x) ≠ n → lk (sweepL n l S).names (strB x) = 0)
  | [], S, D, so, h0 => ⟨Mo.refl S, Nat.le_refl _, D, so, h0, rfl, rfl, fun _ h => h, fun _ _ _ _ x hx => absurd hx List.not_mem_nil⟩
  | l :: r, S, D, so, h0 => by
    by_cases hc : numM (strB l) ≠ 0 ∧ numM (strB l) ≠ n
    · have e : sweepL n (l :: r) S = sweepL n r (rmvS S (strB l)).2 := by show sweepL n r (if _ then _ else _) = _; rw [if_pos hc]
      rw [e]
      obtain ⟨a1, a2, a3, a4⟩ := rmv_any D (strB l)
      have hs1 : strB l ≠ nCur := fun h => hc.1 (by rw [h]; exact numM_cur)
      have hs2 : strB l ≠ mnm n := fun h => hc.2 (by rw [h]; exact numM_mnm so.low.2)
      generalize hS1 : (rmvS S (strB l)).2 = S1 at *
      have hk : Dk S1 T ∧ Kpt (strB l) S S1 ∧ tot S1 = tot S ∧ ∀ t, lk S1.names t ≠ 0 → lk S.names t ≠ 0 := by
        rcases a3 with q | ⟨B, q, r1⟩
        · exact ⟨q.dk D, q.kp _, by unfold tot; rw [q.files], fun t h => by rw [q.names] at h; exact h⟩
        · obtain ⟨k1, D1, _⟩ := rmv_kp (q.dk D) (strB l)
          rw [← r1] at k1 D1
          refine ⟨D1, (q.kp _).trans k1, by rw [r1]; unfold tot; show totF B.files = _; rw [q.files], fun t h => ?_⟩
          have := (rmv_dk (q.dk D) (strB l)).2.1
          rw [r1, this] at h
          simp only at h
          split at h
          · exact absurd rfl h
          · rw [q.names] at h; exact h
      obtain ⟨D1, K1, t1, l1⟩ := hk
      obtain ⟨b1, b2, b3, b4, b5, b6, b7, b8, b9⟩ := sweep_ok r S1 D1 (K1.solo le n X L hs1 hs2 so) (by rw [K1.live _ hs2.symm]; exact h0)
      refine ⟨a1.trans b1, by simp only [List.length_cons]; omega, b3, b4, b5, b6.trans t1, b7.trans K1.q, fun t h => l1 t (b8 t h), fun c1 c2 c3 c4 x hx hx1 hx2 => ?_⟩
      have hm1 := a1.fm c1 c2
      have hm2 := a1.sm c3
      rcases List.mem_cons.1 hx with rfl | hx
      · apply Classical.byContradiction
        intro hne
        have h1 := b8 _ hne
        have h2 := l1 _ h1
        obtain ⟨B, q, r1⟩ := a4 c1 c2 c3 (c4 _ List.mem_cons_self) h2
        have h3 := (rmv_kp (q.dk D) (strB x)).2.2
        rw [← r1] at h3
        exact h1 h3
      · exact b9 hm1.1 hm1.2 hm2 (fun y hy => c4 y (List.mem_cons_of_mem _ hy)) x hx hx1 hx2
    · have e : sweepL n (l :: r) S = sweepL n r S := by show sweepL n r (if _ then _ else _) = _; rw [if_neg hc]
      rw [e]
      obtain ⟨b1, b2, b3, b4, b5, b6, b7, b8, b9⟩ := sweep_ok r S D so h0
      refine ⟨b1, by simp only [List.length_cons]; omega, b3, b4, b5, b6, b7, b8, fun c1 c2 c3 c4 x hx hx1 hx2 => ?_⟩
      rcases List.mem_cons.1 hx with rfl | hx
      · exact absurd ⟨hx1, hx2⟩ hc
      · exact b9 c1 c2 c3 (fun y hy => c4 y (List.mem_cons_of_mem _ hy)) x hx hx1 hx2
theorem names_len {S : St} {T : Nat} (D : Dk S T) : (namesL S).length ≤ 62 := by
  have h := few_keys D.hn D.now.sup
  have e : (namesL S).length = Maps.size S.names := by
    unfold namesL
    rw [List.length_mergeSort]
    obtain ⟨es, he, _⟩ := D.hn.tidy
    rw [he]
    exact List.length_map _
  have := D.sm
  omega
/-- A renewal, to its end. -/
def renewS (S : St) (n : Nat) (W Z : List Int) : Nat × Nat × St := match preS S n W Z with
  | (E, ph, S') => if ph = 2 then (E, ph, sweepL n (if S'.dead then [] else namesL S') S') else (E, ph, S')
theorem renew_ok {le : Nat → List Int} {S S' : St} {T E ph n0 : Nat} {W X : List Int} {L : Nat} (D : Dk S T) (h6 : T + 1 ≤ 60) (hd : S.dead = false) (hso : Solo le S n0 X L) (hT : lk S.names (mnm T) ≠ 0) (h1 : 1 ≤ T)
    (hq : tot S + W.length + (le (T + 1)).length ≤ 250000) (hq2 : tot S + W.length + (le (T + 1)).length ≤ S.q) (e : renewS S (T + 1) W (le (T + 1)) = (E, ph, S')) :
    Md S E S' ∧ S'.calls ≤ S.calls + 100 ∧ tot S' ≤ tot S + W.length + (le (T + 1)).length ∧ S'.q = S.q ∧
    (∃ T1, (T1 = T ∨ T1 = T + 1) ∧ Dk S' T1 ∧ lk S'.names (mnm T1) ≠ 0) ∧
    ((ph = 0 ∧ E ≠ 0 ∧ Solo le S' n0 X L) ∨ (ph = 1 ∧ E ≠ 0 ∧ Am le S'.files (lk S'.names) (T + 1) W W.length ∧ ∀ N, Outs S' N → Am le S'.files N n0 X L ∨ Am le S'.files N (T + 1) W W.length) ∨
      (ph = 2 ∧ E = 0 ∧ Solo le S' (T + 1) W W.length ∧ (S.stop = 0 → S.fail = 0 → ∀ t, lk S'.names t ≠ 0 → t = nCur ∨ t = mnm (T + 1)))) := by
  unfold renewS at e
  obtain ⟨E1, p1, S1, e1⟩ : ∃ E1 p1 S1, preS S (T + 1) W (le (T + 1)) = (E1, p1, S1) := ⟨_, _, _, rfl⟩
  rw [e1] at e
  simp only at e
  obtain ⟨m, c, t, q, ⟨T1, hT1, D1, l1⟩, r⟩ := pre_ok D h6 hd hso hq hq2 e1
  have l1 := l1 hT h1
  rcases r with ⟨rfl, r1, r2⟩ | ⟨rfl, r1, r2, r3⟩ | ⟨rfl, rfl, r2, r3⟩
  · rw [if_neg (by decide)] at e
    injection e with ea eb
    injection eb with eb ec
    subst ea eb ec
    exact ⟨m, by omega, t, q, ⟨T1, hT1, D1, l1⟩, .inl ⟨rfl, r1, r2⟩⟩
  · rw [if_neg (by decide)] at e
    injection e with ea eb
    injection eb with eb ec
    subst ea eb ec
    exact ⟨m, by omega, t, q, ⟨T1, hT1, D1, l1⟩, .inr (.inl ⟨rfl, r1, r2, r3⟩)⟩
  · rw [if_pos rfl] at e
    injection e with ea eb
    injection eb with eb ec
    subst ea eb ec
    have hn : lk S1.names (mnm (T + 1)) ≠ 0 := by
      obtain ⟨x, hx⟩ := r2.all
      exact (at_fl D1 (hx _ D1.nm).2).2.1
    have hlen := names_len D1
    have hl2 : (if S1.dead then [] else namesL S1).length ≤ 62 := by split; simp; exact hlen
    obtain ⟨b1, b2, b3, b4, b5, b6, b7, b8, b9⟩ := sweep_ok (if S1.dead then [] else namesL S1) S1 D1 r2 hn
    have hT1' : T1 = T + 1 := by
      rcases hT1 with h | h
      · exfalso
        rcases D1.now.sup _ hn with h2 | h2 | ⟨k, h2, h3, h4⟩
        · exact mnm_cur (by omega) (by omega) h2
        · exact mnm_frs (by omega) (by omega) h2
        · have := mnm_inj (by omega) (by omega) h4; omega
      · exact h
    subst hT1'
    refine ⟨m.then b1, by omega, by omega, b7.trans q, ⟨T + 1, .inr rfl, b3, b5⟩, .inr (.inr ⟨rfl, rfl, b4, fun c1 c2 t ht => ?_⟩)⟩
    have hm := m.fm c1 hd
    have hm2 := m.sm c2
    rw [hm.2.1] at b8 b9 ht
    simp only [Bool.false_eq_true, if_false] at b8 b9 ht
    have h2 := b8 t ht
    have hmem := (names_mem S1 D1.hn t.data.toList).2 (by rw [strB_key]; exact h2)
    have hall : ∀ x ∈ namesL S1, okName (strB x) = true := fun x hx => by
      rcases D1.now.sup _ ((names_mem S1 D1.hn x).1 hx) with h | h | ⟨k, h2, h3, h⟩
      · rw [h]; exact okCur
      · rw [h]; exact okFrs
      · rw [h]; exact (mnm_okAll k (by omega)).1
    rcases D1.now.sup t h2 with h | h | ⟨k, k1, k2, rfl⟩
    · exact .inl h
    · rw [h] at h2; exact absurd r3 h2
    · by_cases hk : k = T + 1
      · exact .inr (by rw [hk])
      · exfalso
        have := b9 hm.1 trivial hm2.1 hall _ hmem
        rw [strB_key, numM_mnm (by omega)] at this
        exact ht (this (by omega) hk)
/-- On a Disk that is dead nothing is done. -/
theorem renew_dead {S : St} {n : Nat} {W Z : List Int} (hd : S.dead = true) (hn : n < 100) : renewS S n W Z = (50, 0, { S with calls := S.calls + 1 }) := by
  have hb : beginS S = (50, { S with calls := S.calls + 1 }) := by unfold beginS; rw [if_pos hd]
  have h1 : createS S (mnm n) = (50, { S with calls := S.calls + 1 }) := by
    unfold createS
    rw [if_neg (by rw [(mnm_okAll n hn).1]; simp), hb, if_pos (show (50 : Nat) ≠ 0 by decide)]
  unfold renewS preS layS
  rw [h1]
  rfl

/-! An Edit laid behind the others. -/
def saveS (S : St) (s : ByteArray) (zs : List Int) : Nat × Nat × St := match appendS S s zs with
  | (E1, S1) => if E1 ≠ 0 then (E1, 0, S1) else match syncS S1 s with
    | (E2, S2) => if E2 ≠ 0 then (E2, 1, S2) else (0, 2, S2)
theorem solo_upd {le : Nat → List Int} {S : St} {T n : Nat} {X : List Int} {L : Nat} (D : Dk S T) (so : Solo le S n X L) {g : Fl → Fl} (hg : ∀ f, (g f).num = f.num) (hl : ∀ f, f.lasts ≤ f.bs.length → (g f).lasts ≤ (g f).bs.length) {Y : List Int} {L' : Nat} (hb : ∀ f : Fl, f.bs = X → (g f).bs = Y) (hL : ∀ f : Fl, f.bs = X → f.lasts = L → (g f).lasts = L') :
    ∃ f, fileAt S.files (lk S.names (mnm n)) = some f ∧ f.bs = X ∧ f.lasts = L ∧ Dk { S with files := updF S.files f.num g } T ∧ Solo le { S with files := updF S.files f.num g } n Y L' ∧ ∀ k, (∀ f, (g f).bs.length ≤ f.bs.length + k) → tot { S with files := updF S.files f.num g } ≤ tot S + k := by
  obtain ⟨x, hx⟩ := so.all
  obtain ⟨hxn, g0, f, h1, h2, h3, h4, h5, h6⟩ := hx _ D.nm
  obtain ⟨D1, hA⟩ := upd_dk D f.num g hg hl
  have hxf : x = f.num := by rw [← hxn]; exact (D.last h4).1
  refine ⟨f, h4, h5, h6, D1, ⟨⟨x, fun N hN => ?_⟩, so.low⟩, fun k hk => tot_upd_len _ _ _ _ D.ri hk⟩
  have hN' : Outs S N := hN
  obtain ⟨hm, g1, f1, k1, k2, k3, k4, k5, k6⟩ := hx N hN'
  have hfl := at_fl D ⟨g1, f1, k1, k2, k3, k4, k5, k6⟩
  refine ⟨hm, g1, g f1, ?_, k2, k3, ?_, hb f1 k5, hL f1 k5 k6⟩
  · show fileAt (updF S.files f.num g) (N nCur) = _
    rw [hA, k1]
    simp only [Option.map_some]
    rw [if_neg (fun e => mnm_cur so.low.2 so.low.1 ((D.all N hN').inj _ _ hfl.2.1 (hm.trans (hxf.trans e.symm))))]
  · show fileAt (updF S.files f.num g) (N (mnm n)) = _
    rw [hA, k4]
    simp only [Option.map_some]
    rw [if_pos (hm.trans hxf)]
theorem Eqf.solo {le : Nat → List Int} {S S' : St} {n : Nat} {X : List Int} {L : Nat} (h : Eqf S S') (so : Solo le S n X L) : Solo le S' n X L := ⟨by have := so.all; rw [h.files, h.outs]; exact this, so.low⟩
theorem save_ok {le : Nat → List Int} {S S' : St} {T E ph n : Nat} {X zs : List Int} {L : Nat} (D : Dk S T) (so : Solo le S n X L) (hq : tot S + zs.length ≤ 250000) (hq2 : tot S + zs.length ≤ S.q) (e : saveS S (mnm n) zs = (E, ph, S')) :
    Md S E S' ∧ S'.calls ≤ S.calls + 2 ∧ Dk S' T ∧ lk S'.names = lk S.names ∧ tot S' ≤ tot S + zs.length ∧ S'.q = S.q ∧
    ((ph = 0 ∧ E ≠ 0 ∧ Solo le S' n X L) ∨ (ph = 1 ∧ E ≠ 0 ∧ Solo le S' n (X ++ zs) L) ∨ (ph = 2 ∧ E = 0 ∧ Solo le S' n (X ++ zs) (X ++ zs).length)) := by
  unfold saveS at e
  have hok := (mnm_okAll n so.low.2).1
  obtain ⟨x, hx⟩ := so.all
  obtain ⟨hxn, g0, f, h1, h2, h3, h4, h5, h6⟩ := hx _ D.nm
  obtain ⟨E1, S1, e1⟩ : ∃ E1 S1, appendS S (mnm n) zs = (E1, S1) := ⟨_, _, rfl⟩
  rw [e1] at e
  simp only at e
  have O1 := append_op D hok h4 hq hq2 e1
  have c1 := O1.calls
  rcases O1.res with ⟨n1, q1⟩ | ⟨rfl, B, q1, r1⟩
  · rw [if_pos n1] at e
    injection e with ea eb
    injection eb with eb ec
    subst ea eb ec
    exact ⟨O1.md, by omega, q1.dk D, by rw [q1.names], by unfold tot; rw [q1.files]; omega, q1.q, .inl ⟨rfl, n1, q1.solo so⟩⟩
  rw [if_neg (by simp)] at e
  try simp only at r1
  obtain ⟨f', h4', h5', h6', D1, so1, t1⟩ := solo_upd (q1.dk D) (q1.solo so) (g := growF zs) (Y := X ++ zs) (L' := L) (fun f => rfl) (fun f h => by simp [growF]; omega) (fun f e => by simp [growF, e]) (fun f _ e => e)
  have ef : f' = f := by rw [q1.files, q1.names, h4] at h4'; injection h4' with h; exact h.symm
  subst ef
  rw [← r1] at D1 so1 t1
  have tB : tot B = tot S := by unfold tot; rw [q1.files]
  have t1' := t1 zs.length (fun f => by simp [growF])
  have n1 : lk S1.names = lk S.names := by rw [r1]; show lk B.names = _; rw [q1.names]
  have Q1 : S1.q = S.q := by rw [r1]; exact q1.q
  obtain ⟨E2, S2, e2⟩ : ∃ E2 S2, syncS S1 (mnm n) = (E2, S2) := ⟨_, _, rfl⟩
  rw [e2] at e
  simp only at e
  obtain ⟨x2, hx2⟩ := so1.all
  obtain ⟨-, -, f2, -, -, -, j4, j5, j6⟩ := hx2 _ D1.nm
  have O2 := sync_op hok j4 e2
  have c2 := O2.calls
  have m2 := O1.md.trans O2.md
  rcases O2.res with ⟨n2, q2⟩ | ⟨rfl, B2, q2, r2⟩
  · rw [if_pos n2] at e
    injection e with ea eb
    injection eb with eb ec
    subst ea eb ec
    exact ⟨m2, by omega, q2.dk D1, by rw [q2.names]; exact n1, by unfold tot at *; rw [q2.files]; omega, q2.q.trans Q1, .inr (.inl ⟨rfl, n2, q2.solo so1⟩)⟩
  rw [if_neg (by simp)] at e
  injection e with ea eb
  injection eb with eb ec
  subst ea eb ec
  try simp only at r2
  obtain ⟨f3, i4, i5, i6, D2, so2, t2⟩ := solo_upd (q2.dk D1) (q2.solo so1) (g := lastF) (Y := X ++ zs) (L' := (X ++ zs).length) (fun f => rfl) (fun f h => Nat.le_refl _) (fun f e => e) (fun f e _ => by show f.bs.length = _; rw [e])
  have ef : f3 = f2 := by rw [q2.files, q2.names, j4] at i4; injection i4 with h; exact h.symm
  subst ef
  rw [← r2] at D2 so2 t2
  have tB2 : tot B2 = tot S1 := by unfold tot; rw [q2.files]
  have t2' := t2 0 (fun f => by simp [lastF])
  exact ⟨m2, by omega, D2, by rw [r2]; show lk B2.names = _; rw [q2.names]; exact n1, by omega, by rw [r2]; exact q2.q.trans Q1, .inr (.inr ⟨rfl, rfl, so2⟩)⟩

end Go.Proofs.YtcahlmneancapaaGreatDoor.Clep

/- What man.Number does when called with a name of a manifest's Disk (a walk over the translated program). Numbers from 1 to 99. -/
namespace Go.Proofs.YtcahlmneancapaaGreatDoor.Clep
open Go.RowKit Go.Maps
set_option linter.unusedVariables false
set_option maxRecDepth 10000

theorem cut_any (s p : ByteArray) (w : World) : Calls Tryz.prog 55 #[.string s, .string p] w fun e w' => e = .returned (.tuple #[.string ⟨(Lib.trimPrefix s.data.toList p.data.toList).toArray⟩, .bool (Lib.hasPrefix s.data.toList p.data.toList)]) ∧ w' = w :=
  Any.strings_CutPrefix Tryz.cutA s p w
theorem atoi_any (s : ByteArray) (v : Int) (h : Lib.atoiAll s.data.toList = .ok v) (hs : s.size ≤ 1000) (w : World) : Calls Tryz.prog 56 #[.string s] w fun e w' => e = .returned (.tuple #[.int .i64 v, .nilIface]) ∧ Below w.heap.size w w' := by
  refine (Any.strconv_Atoi_ok Tryz.atoiA s (by omega) v h w).mono ?_
  rintro e w' ⟨rfl, rfl | ⟨t, rfl⟩⟩
  · exact ⟨rfl, Below.refl _ _⟩
  · exact ⟨rfl, Lib.bytesWorld_below w _ t⟩
/-- A name that has not this beginning. -/
theorem number_not (s k : ByteArray) (hk : k.size ≤ 1000) (h : Lib.hasPrefix s.data.toList (k ++ kPt).data.toList = false) (w : World) :
    Calls Tryz.prog 24 #[.string s, .string k] w fun e w' => e = .returned (.tuple #[.int .i64 0, .bool false]) ∧ w' = w := by
  have C := hide (cut_any s (k ++ kPt) w)
  rw [h] at C
  have a1 : (Op.stringOp .add k kPt).run Tryz.prog w = .ok (.string (k ++ kPt)) w := run_string_add_sum w _ _ (by have : kPt.size = 1 := rfl; omega)
  unfold kPt at a1 C
  generalize k ++ { data := #[46] } = T at *
  clear h hk
  go_enter Tryz.func24, Tryz.ntmps24
  go_wp2_with fail
  refine C.out.mono ?_
  rintro e w1 ⟨rfl, rfl⟩
  clear C a1
  go_wp2
  go_ret2
  exact ⟨rfl, rfl⟩
theorem number_man (k : Nat) (h1 : 1 ≤ k) (h2 : k < 100) (hp : Lib.hasPrefix (mnm k).data.toList (kMan ++ kPt).data.toList = true) (hA : Lib.atoiAll (Lib.trimPrefix (mnm k).data.toList (kMan ++ kPt).data.toList) = .ok (k : Int)) (w : World) :
    Calls Tryz.prog 24 #[.string (mnm k), .string kMan] w fun e w' => e = .returned (.tuple #[.int .i64 k, .bool true]) ∧ Below w.heap.size w w' := by
  have C := hide (cut_any (mnm k) (kMan ++ kPt) w)
  rw [hp] at C
  have hsz : (⟨(Lib.trimPrefix (mnm k).data.toList (kMan ++ kPt).data.toList).toArray⟩ : ByteArray).size ≤ 1000 := by
    have := (mnm_okAll k h2).2
    have h3 : (mnm k).data.toList.length = (mnm k).size := by rw [Array.length_toList]; rfl
    show (Lib.trimPrefix (mnm k).data.toList (kMan ++ kPt).data.toList).toArray.size ≤ 1000
    rw [List.size_toArray]
    unfold Lib.trimPrefix
    rw [if_pos hp]
    exact Nat.le_trans (List.Sublist.length_le (List.drop_sublist _ _)) (by omega)
  have A := hide (atoi_any ⟨(Lib.trimPrefix (mnm k).data.toList (kMan ++ kPt).data.toList).toArray⟩ k hA hsz w)
  have N := hide (fun W => name_man k h1 h2 W)
  have a1 : (Op.stringOp .add kMan kPt).run Tryz.prog w = .ok (.string (kMan ++ kPt)) w := run_string_add_sum w _ _ (by decide)
  unfold kPt at a1 C A
  generalize kMan ++ { data := #[46] } = T at *
  generalize (⟨(Lib.trimPrefix (mnm k).data.toList T.data.toList).toArray⟩ : ByteArray) = D at *
  generalize mnm k = Z at *
  generalize kMan = Y at *
  have e0 : (Z.toList == Z.toList) = true := by simp
  clear hp hA hsz
  go_enter Tryz.func24, Tryz.ntmps24
  go_wp2_with fail
  refine C.out.mono ?_
  rintro e w1 ⟨rfl, rfl⟩
  clear C a1
  go_wp2_with fail
  refine A.out.mono ?_
  rintro e w2 ⟨rfl, hb⟩
  have HB := hide hb
  clear A hb
  go_wp2_with fail
  refine (N.out w2).mono ?_
  rintro e w3 ⟨rfl, rfl⟩
  go_wp2
  go_ret2
  exact ⟨rfl, HB.out⟩
theorem number_of (s kd : ByteArray) (hk : isK kd = true) (k : Nat) (h1 : 1 ≤ k) (h2 : k < 100) (hn : kd ++ kPt ++ ⟨(Lib.decDigits k).toArray⟩ = s) (hss : s.size ≤ 100) (hp : Lib.hasPrefix s.data.toList (kd ++ kPt).data.toList = true) (hA : Lib.atoiAll (Lib.trimPrefix s.data.toList (kd ++ kPt).data.toList) = .ok (k : Int)) (w : World) :
    Calls Tryz.prog 24 #[.string s, .string kd] w fun e w' => e = .returned (.tuple #[.int .i64 k, .bool true]) ∧ Below w.heap.size w w' := by
  have C := hide (cut_any s (kd ++ kPt) w)
  rw [hp] at C
  have hsz : (⟨(Lib.trimPrefix s.data.toList (kd ++ kPt).data.toList).toArray⟩ : ByteArray).size ≤ 1000 := by
    have h3 : s.data.toList.length = s.size := by rw [Array.length_toList]; rfl
    show (Lib.trimPrefix s.data.toList (kd ++ kPt).data.toList).toArray.size ≤ 1000
    rw [List.size_toArray]
    unfold Lib.trimPrefix
    rw [if_pos hp]
    exact Nat.le_trans (List.Sublist.length_le (List.drop_sublist _ _)) (by omega)
  have A := hide (atoi_any ⟨(Lib.trimPrefix s.data.toList (kd ++ kPt).data.toList).toArray⟩ k hA hsz w)
  have N := hide (fun W => name_small kd hk k h1 h2 W)
  rw [hn] at N
  have hk3 := isK_size hk
  have a1 : (Op.stringOp .add kd kPt).run Tryz.prog w = .ok (.string (kd ++ kPt)) w := run_string_add_sum w _ _ (by have : kPt.size = 1 := rfl; omega)
  unfold kPt at a1 C A
  generalize kd ++ { data := #[46] } = T at *
  generalize (⟨(Lib.trimPrefix s.data.toList T.data.toList).toArray⟩ : ByteArray) = D at *
  have e0 : (s.toList == s.toList) = true := by simp
  clear hp hA hsz hn hk hss hk3
  go_enter Tryz.func24, Tryz.ntmps24
  go_wp2_with fail
  refine C.out.mono ?_
  rintro e w1 ⟨rfl, rfl⟩
  clear C a1
  go_wp2_with fail
  refine A.out.mono ?_
  rintro e w2 ⟨rfl, hb⟩
  have HB := hide hb
  clear A hb
  go_wp2_with fail
  refine (N.out w2).mono ?_
  rintro e w3 ⟨rfl, rfl⟩
  go_wp2
  go_ret2
  exact ⟨rfl, HB.out⟩
theorem hasP_cur : Lib.hasPrefix nCur.data.toList (kMan ++ kPt).data.toList = false := by decide
theorem hasP_frs : Lib.hasPrefix nFrs.data.toList (kMan ++ kPt).data.toList = false := by decide
theorem hasP_man : ∀ k < 100, 1 ≤ k → Lib.hasPrefix (mnm k).data.toList (kMan ++ kPt).data.toList = true := by decide
theorem atoi_man : ∀ k < 100, 1 ≤ k → Lib.atoiAll (Lib.trimPrefix (mnm k).data.toList (kMan ++ kPt).data.toList) = .ok (k : Int) := by decide
theorem number_any {T : Nat} (s : ByteArray) (hs : okM T s) (hT : T ≤ 60) (w : World) :
    Calls Tryz.prog 24 #[.string s, .string kMan] w fun e w' => e = .returned (.tuple #[.int .i64 (numM s), .bool (decide (numM s ≠ 0))]) ∧ Below w.heap.size w w' := by
  rcases hs with rfl | rfl | ⟨k, h1, h2, rfl⟩
  · refine (number_not nCur kMan (by decide) hasP_cur w).mono ?_
    rintro e w' ⟨rfl, rfl⟩
    rw [numM_cur]
    exact ⟨rfl, Below.refl _ _⟩
  · refine (number_not nFrs kMan (by decide) hasP_frs w).mono ?_
    rintro e w' ⟨rfl, rfl⟩
    rw [numM_frs]
    exact ⟨rfl, Below.refl _ _⟩
  · rw [numM_mnm (by omega)]
    refine (number_man k h1 (by omega) (hasP_man k (by omega) h1) (atoi_man k (by omega) h1) w).mono ?_
    rintro e w' ⟨rfl, hb⟩
    refine ⟨?_, hb⟩
    have : decide (k ≠ 0) = true := by simp; omega
    rw [this]

end Go.Proofs.YtcahlmneancapaaGreatDoor.Clep

/- Blocks beside a Disk: what may have changed, and what that leaves of the Disk. No conditions. -/
namespace Go.Proofs.YtcahlmneancapaaGreatDoor.Clep
open Go.RowKit Go.Maps
set_option linter.unusedVariables false
set_option maxRecDepth 10000

/-- Of the blocks that there were only those of P may have changed. -/
structure Ch (P : Nat → Prop) (w w' : World) : Prop where
  os : w'.os = w.os
  tape : w'.tape = w.tape
  output : w'.output = w.output
  size : w.heap.size ≤ w'.heap.size
  block : ∀ k, k < w.heap.size → ¬ P k → w'.heap[k]? = w.heap[k]?
theorem Ch.of {P : Nat → Prop} {w w' : World} (h : Below w.heap.size w w') : Ch P w w' := ⟨h.os, h.tape, h.output, h.size, fun k hk _ => h.block k hk⟩
theorem Ch.trans {P : Nat → Prop} {w w1 w2 : World} (h : Ch P w w1) (k : Ch P w1 w2) : Ch P w w2 :=
  ⟨k.os.trans h.os, k.tape.trans h.tape, k.output.trans h.output, Nat.le_trans h.size k.size, fun i hi hp => (k.block i (Nat.lt_of_lt_of_le hi h.size) hp).trans (h.block i hi hp)⟩
theorem Ch.mono {P Q : Nat → Prop} {w w' : World} (h : Ch P w w') (hpq : ∀ i, i < w.heap.size → P i → Q i) : Ch Q w w' :=
  ⟨h.os, h.tape, h.output, h.size, fun k hk hq => h.block k hk fun hp => hq (hpq k hk hp)⟩
theorem Ch.set {P : Nat → Prop} (w : World) (a : Addr) (v : Value) (h : P a.block) : Ch P w (w.setCell a v) :=
  ⟨rfl, rfl, rfl, by simp [World.setCell], fun k hk hp => Below.heap_setCell _ _ _ _ fun e => hp (e ▸ h)⟩
theorem Ch.below {P : Nat → Prop} {w w' : World} {B : Nat} (h : Ch P w w') (hB : B ≤ w.heap.size) (hP : ∀ i, P i → B ≤ i) : Below B w w' :=
  ⟨h.os, h.tape, h.output, h.size, fun k hk => h.block k (by omega) fun hp => by have := hP k hp; omega⟩
theorem Ek.ch {P : Nat → Prop} {w w' : World} {b : Nat} {cs : Array Value} {T : TypeId} (h : Ek w b cs T) (hc : Ch P w w') (hp : ¬ P b) : Ek w' b cs T := by
  unfold Ek at *
  rw [hc.block b (Ek.lt h) hp]; exact h
theorem Ek.same {F : Nat → Prop} {w w' : World} {b : Nat} {cs : Array Value} {T : TypeId} (h : Ek w b cs T) (hs : Same F w w') (hf : F b) : Ek w' b cs T := by
  unfold Ek at *
  rw [hs.block b hf]; exact h
theorem Ek.keep {w w' : World} {b : Nat} {cs : Array Value} {T : TypeId} (h : Ek w b cs T) (hb : Below w.heap.size w w') : Ek w' b cs T := Ek.below h hb (Ek.lt h)
theorem Fs.same {F : Nat → Prop} {w w' : World} {ao : Option Addr} {n c : Nat} {l : List Fi} (h : Fs w ao n c l) (hs : Same F w w') (hf : ∀ x, ao = some x → F x.block) : Fs w' ao n c l := by
  refine ⟨h.1, h.2.1, h.2.2.1, fun h0 => ?_⟩
  obtain ⟨b, off, e, hc⟩ := h.2.2.2 h0
  refine ⟨b, off, e, fun i f hi => ?_⟩
  have hb := hs.block b (hf _ e)
  obtain ⟨c1, c2⟩ := hc i f hi
  exact ⟨(World.cell?_of_block hb).trans c1, (World.cell?_of_block hb).trans c2⟩
theorem Fs.ch {P : Nat → Prop} {w w' : World} {ao : Option Addr} {n c : Nat} {l : List Fi} (h : Fs w ao n c l) (hs : Ch P w w') (hf : ∀ x, ao = some x → ¬ P x.block) : Fs w' ao n c l := by
  refine ⟨h.1, h.2.1, h.2.2.1, fun h0 => ?_⟩
  obtain ⟨b, off, e, hc⟩ := h.2.2.2 h0
  refine ⟨b, off, e, fun i f hi => ?_⟩
  obtain ⟨c1, c2⟩ := hc i f hi
  have hb := hs.block b (World.block_lt_of_cell? w _ c1) (hf _ e)
  exact ⟨(World.cell?_of_block hb).trans c1, (World.cell?_of_block hb).trans c2⟩
/-- Only blocks that are not the Disk's changed: it is as it was, and all that is new is not the Disk's. -/
theorem Held.ch {F : Nat → Prop} {w w' : World} {R : Nat} {S : St} (h : Held F w R S) (hc : Ch F w w') : Held (fun i => F i ∨ (w.heap.size ≤ i ∧ i < w'.heap.size)) w' R S := by
  obtain ⟨G, D, hF⟩ := h
  have T : Turn G.τ (fun n => n = 0) w w' := ⟨hc.size, fun i hi ht => hc.block i hi (fun hf => ht (hF i hf).2)⟩
  obtain ⟨M, f1, f2, f3⟩ := D.fm
  refine ⟨G, ⟨drow_keep T D.row (by rw [D.tR]; omega), ⟨M, map_keep T f1 (by rw [D.tf]; omega), f2, f3⟩, map_keep T D.nm (by rw [D.tn]; omega), map_keep T D.lm (by rw [D.tl]; omega), owns_keep T D.sc (fun g hg => by rw [D.ts g hg]; omega), fun f hf => file_keep T (D.files f hf) (by omega) (by omega), D.tR, D.tf, D.tn, D.tl, D.ts, fun i hi => D.top i (Nat.le_trans hc.size hi), D.ok⟩, fun i hi => ?_⟩
  rcases hi with hi | hi
  · exact ⟨Nat.lt_of_lt_of_le (hF i hi).1 hc.size, (hF i hi).2⟩
  · exact ⟨hi.2, D.top _ hi.1⟩
theorem Held.lt {F : Nat → Prop} {w : World} {R : Nat} {S : St} (h : Held F w R S) {i : Nat} (hi : F i) : i < w.heap.size := by
  obtain ⟨G, D, hF⟩ := h
  exact (hF i hi).1
theorem same_of {F : Nat → Prop} {w w' : World} (h : Below w.heap.size w w') (hF : ∀ i, F i → i < w.heap.size) : Same F w w' := ⟨h.os, h.tape, h.output, h.size, fun i hi => h.block i (hF i hi)⟩
theorem same_ch {F P : Nat → Prop} {w w' : World} (h : Ch P w w') (hF : ∀ i, F i → i < w.heap.size ∧ ¬ P i) : Same F w w' := ⟨h.os, h.tape, h.output, h.size, fun i hi => h.block i (hF i hi).1 (hF i hi).2⟩
theorem bmore {w w1 w2 : World} (h : Below w.heap.size w w1) (k : Below w1.heap.size w1 w2) : Below w.heap.size w w2 := h.trans (k.mono h.size)
theorem same_drew (F : Nat → Prop) (w : World) : Same F w w.drew := ⟨rfl, rfl, rfl, Nat.le_refl _, fun _ _ => rfl⟩

end Go.Proofs.YtcahlmneancapaaGreatDoor.Clep

/- What sync.Once's Do does when called, in one goroutine, its lock free: the function is called once; if it was called before nothing is done. Conditions: the function touches neither the Once's cells nor what was there ahead but one block. -/
namespace Go.Proofs.YtcahlmneancapaaGreatDoor.Clep
open Go.RowKit
set_option linter.unusedVariables false

theorem raceDisable (w : World) : (callFunc 195 #[]).run Tryz.prog w = .ok (.value (.tuple #[])) w := run_call_mark0 Tryz.func195 (by kernel_rfl) (by kernel_rfl) (by kernel_rfl) .disable (by kernel_rfl) w
theorem raceEnable (w : World) : (callFunc 197 #[]).run Tryz.prog w = .ok (.value (.tuple #[])) w := run_call_mark0 Tryz.func197 (by kernel_rfl) (by kernel_rfl) (by kernel_rfl) .enable (by kernel_rfl) w
theorem raceAcquire (a : Addr) (w : World) : (callFunc 198 #[.pointer (some a)]).run Tryz.prog w = .ok (.value (.tuple #[])) w := run_call_marked Tryz.func198 (by kernel_rfl) (by kernel_rfl) (by kernel_rfl) .acquire (by kernel_rfl) a w
theorem raceRelease (a : Addr) (w : World) : (callFunc 200 #[.pointer (some a)]).run Tryz.prog w = .ok (.value (.tuple #[])) w := run_call_marked Tryz.func200 (by kernel_rfl) (by kernel_rfl) (by kernel_rfl) .releaseMerge (by kernel_rfl) a w

set_option maxRecDepth 100000 in
set_option maxHeartbeats 1600000 in
theorem storeD (a : Addr) (x : Value) (u : FrameMode) (w : World) (hc : w.cell? a = some x) (hz : w.frozen? a = false) :
    CallsD Tryz.prog 138 #[.pointer (some a), .bool true] u w fun e u' w' => u' = u ∧ (e = .returned (.tuple #[]) ∧ w' = w.drew.setCell a (.int .u32 1)) := by
  have hc' : w.drew.cell? a = some x := by go_simp
  have hz' : w.drew.frozen? a = false := by go_simp
  have hst := run_call_store (P := Tryz.prog) Tryz.func171 (by kernel_rfl) (by kernel_rfl) (by kernel_rfl) (by kernel_rfl) (k := .u32) (y := 1) hc' hz'
  go_enter_d Tryz.func138, Tryz.ntmps138
  go_wp2
  go_region_calls
  all_goals (go_end0; exact ⟨rfl, rfl⟩)

set_option maxRecDepth 100000 in
set_option maxHeartbeats 1600000 in
theorem unlockD (a : Addr) (u : FrameMode) (w : World) (hc : w.cell? a = some (.int .i32 1)) (hz : w.frozen? a = false) :
    CallsD Tryz.prog 137 #[.pointer (some a)] u w fun e u' w' => u' = u ∧ (e = .returned (.tuple #[]) ∧ w' = w.setCell a (.int .i32 0)) := by
  have hd := raceDisable
  have he := raceEnable
  have hr := raceRelease
  have hadd := run_call_add (P := Tryz.prog) Tryz.func201 (by kernel_rfl) (by kernel_rfl) (by kernel_rfl) .i32 (by kernel_rfl) (y := -1) (s := 0) hc hz (by simp [go_sem]; rfl)
  have hcv := run_convert_to_unsafe (P := Tryz.prog) (src := 255) (dst := 259) Tryz.underlying255 Tryz.underlying259 (by kernel_rfl) hc
  go_enter_d Tryz.func137, Tryz.ntmps137
  go_wp2
  go_end0
  go_wp2
  go_end0
  exact ⟨rfl, rfl⟩

set_option maxRecDepth 100000 in
set_option maxHeartbeats 1600000 in
theorem lockF (a : Addr) (w : World) (hc : w.cell? a = some (.int .i32 0)) (hz : w.frozen? a = false) :
    Calls Tryz.prog 136 #[.pointer (some a)] w fun e w' => e = .returned (.tuple #[]) ∧ w' = w.setCell a (.int .i32 1) := by
  have hd := raceDisable
  have he := raceEnable
  have ha := raceAcquire
  have hcas := run_call_cas_hit (P := Tryz.prog) Tryz.func196 (by kernel_rfl) (by kernel_rfl) (by kernel_rfl) .i32 (by kernel_rfl) (y := 1) hc hz
  have hc' : (w.setCell a (.int .i32 1)).cell? a = some (.int .i32 1) := World.cell?_setCell_same w a _ hc
  have hcv := run_convert_to_unsafe (P := Tryz.prog) (src := 255) (dst := 259) Tryz.underlying255 Tryz.underlying259 (by kernel_rfl) hc'
  go_enter Tryz.func136, Tryz.ntmps136
  go_wp2
  first | go_end0 | (simp only [Exit.inBlock, Exit.then]; refine bodyPost_ret (results_none rfl _ _ _) rfl ?_) | refine bodyPost_ret (results_none rfl _ _ _) rfl ?_
  go_wp2
  go_end0
  exact ⟨rfl, rfl⟩

set_option maxRecDepth 100000 in
set_option maxHeartbeats 1600000 in
theorem slow_any (b off : Nat) (pl : Addr) (Q : World → Prop) (w : World)
    (h0 : w.cell? ⟨b, off, none⟩ = some (.int .u32 0)) (h1 : w.cell? ⟨b, off + 1, none⟩ = some (.int .i32 0)) (f0 : w.frozen? ⟨b, off, none⟩ = false) (f1 : w.frozen? ⟨b, off + 1, none⟩ = false)
    (hf : Hid (Calls Tryz.prog 83 #[.pointer (some pl)] (w.setCell ⟨b, off + 1, none⟩ (.int .i32 1)) fun e w2 => e = .returned (.tuple #[]) ∧ Q w2))
    (hq : Hid (∀ w2, Q w2 → w2.cell? ⟨b, off, none⟩ = some (.int .u32 0) ∧ w2.cell? ⟨b, off + 1, none⟩ = some (.int .i32 1) ∧ w2.frozen? ⟨b, off, none⟩ = false ∧ w2.frozen? ⟨b, off + 1, none⟩ = false)) :
    Calls Tryz.prog 109 #[.pointer (some ⟨b, off, none⟩), .func (.func 83) #[] #[.pointer (some pl)]] w fun e w' => e = .returned (.tuple #[]) ∧
      ∃ w2, Q w2 ∧ w' = (w2.drew.setCell ⟨b, off, none⟩ (.int .u32 1)).setCell ⟨b, off + 1, none⟩ (.int .i32 0) := by
  have hl := run_call_load (P := Tryz.prog) Tryz.func135 (by kernel_rfl) (by kernel_rfl) (by kernel_rfl) .u32 (by kernel_rfl) (w := w.setCell ⟨b, off + 1, none⟩ (.int .i32 1)) (a := ⟨b, off, none⟩) (x := 0) ((World.cell?_setCell_other _ ⟨b, off + 1, none⟩ ⟨b, off, none⟩ _ (by simp)).trans h0)
  have hnot : ∀ (x : Bool) (w : World), (Op.unary .not (.bool x)).run Tryz.prog w = .ok (.bool (!x)) w := fun _ _ => rfl
  go_enter_defers Tryz.func109, Tryz.ntmps109
  go_wp2_with (first
    | (go_at_call 136; refine (lockF ⟨b, off + 1, none⟩ _ (by go_simp) (by go_simp)).mono ?_; rintro e w' ⟨rfl, rfl⟩)
    | (go_at_call 108; go_in)
    | (go_at_call 83; refine hf.out.mono ?_; rintro e w2 ⟨rfl, hQ⟩))
  obtain ⟨q0, q1, q2, q3⟩ := hq.out w2 hQ
  refine leaves_cons (f := 138) (args := #[.pointer (some ⟨b, off, none⟩), .bool true]) (by simp) (by simp [go_sem]) ?_
  refine (storeD ⟨b, off, none⟩ (.int .u32 0) .returning _ q0 q2).mono ?_
  rintro e u' w'' ⟨rfl, rfl, rfl⟩
  refine leaves_cons (f := 137) (args := #[.pointer (some ⟨b, off + 1, none⟩)]) (by simp [settle]) (by simp [go_sem]) ?_
  refine (unlockD ⟨b, off + 1, none⟩ _ _ ?_ (by simp [q3])).mono ?_
  · refine (World.cell?_setCell_other _ ⟨b, off, none⟩ ⟨b, off + 1, none⟩ _ (by simp)).trans ?_
    rw [World.cell?_drew]
    exact q1
  rintro e u' w'' ⟨rfl, rfl, rfl⟩
  simp [Leaves, settle, results, Tryz.results109]
  exact ⟨w2, hQ, rfl⟩

set_option maxRecDepth 100000 in
set_option maxHeartbeats 1600000 in
theorem do_first (b off : Nat) (pl : Addr) (Q : World → Prop) (w : World)
    (h0 : w.cell? ⟨b, off, none⟩ = some (.int .u32 0)) (h1 : w.cell? ⟨b, off + 1, none⟩ = some (.int .i32 0)) (f0 : w.frozen? ⟨b, off, none⟩ = false) (f1 : w.frozen? ⟨b, off + 1, none⟩ = false)
    (hf : Hid (Calls Tryz.prog 83 #[.pointer (some pl)] (w.setCell ⟨b, off + 1, none⟩ (.int .i32 1)) fun e w2 => e = .returned (.tuple #[]) ∧ Q w2))
    (hq : Hid (∀ w2, Q w2 → w2.cell? ⟨b, off, none⟩ = some (.int .u32 0) ∧ w2.cell? ⟨b, off + 1, none⟩ = some (.int .i32 1) ∧ w2.frozen? ⟨b, off, none⟩ = false ∧ w2.frozen? ⟨b, off + 1, none⟩ = false)) :
    Calls Tryz.prog 82 #[.pointer (some ⟨b, off, none⟩), .func (.func 83) #[] #[.pointer (some pl)]] w fun e w' => e = .returned (.tuple #[]) ∧
      ∃ w2, Q w2 ∧ w' = (w2.drew.setCell ⟨b, off, none⟩ (.int .u32 1)).setCell ⟨b, off + 1, none⟩ (.int .i32 0) := by
  have hs := hide (slow_any b off pl Q w h0 h1 f0 f1 hf hq)
  have hl := run_call_load (P := Tryz.prog) Tryz.func135 (by kernel_rfl) (by kernel_rfl) (by kernel_rfl) .u32 (by kernel_rfl) h0
  have hnot : ∀ (x : Bool) (w : World), (Op.unary .not (.bool x)).run Tryz.prog w = .ok (.bool (!x)) w := fun _ _ => rfl
  go_enter Tryz.func82, Tryz.ntmps82
  go_wp2_with (first | (go_at_call 109; refine hs.out.mono ?_; rintro e w' ⟨rfl, hw⟩) | (go_at_call 108; go_in))
  go_end0
  exact ⟨rfl, hw⟩

theorem do_done (a : Addr) (fv : Value) (w : World) (h0 : w.cell? a = some (.int .u32 1)) :
    Calls Tryz.prog 82 #[.pointer (some a), fv] w fun e w' => e = .returned (.tuple #[]) ∧ w' = w := by
  have hl := run_call_load (P := Tryz.prog) Tryz.func135 (by kernel_rfl) (by kernel_rfl) (by kernel_rfl) .u32 (by kernel_rfl) h0
  have hnot : ∀ (x : Bool) (w : World), (Op.unary .not (.bool x)).run Tryz.prog w = .ok (.bool (!x)) w := fun _ _ => rfl
  go_enter Tryz.func82, Tryz.ntmps82
  go_wp2
  go_end0
  exact ⟨rfl, rfl⟩

end Go.Proofs.YtcahlmneancapaaGreatDoor.Clep
