/- A Save, a renewal and an Open where nothing fails; how many names there are. -/
import Derived.Test.YtcahlmneancapaaGreatDoorFu26
import Derived.Test.YtcahlmneancapaaGreatDoorFu27
import Derived.BigRegion
import Derived.Deep.CutRange
import Derived.Deep.RegionWith
namespace Go.Proofs.YtcahlmneancapaaGreatDoor.Clep
open Go.RowKit Go.Maps Go.Sort
set_option linter.unusedVariables false
set_option maxRecDepth 10000

theorem flV_zero : flV 0 = oneV := rfl
theorem flE_appl0 {x y : Int} (h0 : 1 ≤ x) (h1 : x ≤ 1000) : appl (flV y) (flE x) = some (flV x) := flE_appl h0 (by omega)
/-- A Save on a Disk where nothing fails. -/
theorem mp_save_calm {S : St} {T n : Nat} {l : List Ed} {V U : Vw} {E : Ed} (h : Mp S T n l (el l).length V) (hc : Calm S) (hE : Eg E) (ha : appl V E = some U) (hq : tot S + 1312 ≤ 250000) (hq2 : tot S + 1312 ≤ S.q) :
    ∃ S', saveS S (mnm n) (fr 6 (ebd E)) = (0, 2, S') ∧ Calm S' ∧ S'.calls ≤ S.calls + 2 ∧ tot S' ≤ tot S + 1312 ∧ S'.q = S.q ∧ lk S'.names = lk S.names ∧ Mp S' T n (l ++ [E]) (el (l ++ [E])).length U := by
  obtain ⟨E1, ph, S', e⟩ : ∃ E1 ph S', saveS S (mnm n) (fr 6 (ebd E)) = (E1, ph, S') := ⟨_, _, _, rfl⟩
  obtain ⟨m, c, t, q, nm, r⟩ := mp_save h hE ha hq hq2 e
  obtain ⟨z, k⟩ := m.calm hc
  subst z
  rcases r with ⟨-, r, -⟩ | ⟨-, r, -⟩ | ⟨rfl, -, P⟩
  · exact absurd rfl r
  · exact absurd rfl r
  · exact ⟨S', e, k, c, t, q, nm, P⟩
theorem mp_renew_calm {S : St} {T n : Nat} {l : List Ed} {L : Nat} {V : Vw} (h : Mp S T n l L V) (hc : Calm S) (h6 : T + 1 ≤ 60) (hq : tot S + 1334 ≤ 250000) (hq2 : tot S + 1334 ≤ S.q) :
    ∃ S', renewS S (nextS S) (whB V) (leB (nextS S)) = (0, 2, S') ∧ nextS S = T + 1 ∧ Calm S' ∧ S'.calls ≤ S.calls + 100 ∧ tot S' ≤ tot S + 1334 ∧ S'.q = S.q ∧ Mp S' (T + 1) (T + 1) [wholeE V] (el [wholeE V]).length V ∧ (∀ t, lk S'.names t ≠ 0 → t = nCur ∨ t = mnm (T + 1)) := by
  obtain ⟨E1, ph, S', e⟩ : ∃ E1 ph S', renewS S (nextS S) (whB V) (leB (nextS S)) = (E1, ph, S') := ⟨_, _, _, rfl⟩
  obtain ⟨hn, m, c, t, q, r⟩ := mp_renew h hc.2.2 h6 hq hq2 e
  obtain ⟨z, k⟩ := m.calm hc
  subst z
  rcases r with ⟨-, r, -⟩ | ⟨-, r, -⟩ | ⟨rfl, -, P, f⟩
  · exact absurd rfl r
  · exact absurd rfl r
  · exact ⟨S', e, hn, k, c, t, q, P, f hc.1 hc.2.1⟩
/-- Open where nothing fails and all lasts. -/
theorem kd_open_calm {K : Nat → Prop} {w : World} {R n T : Nat} {S : St} {l : List Ed} {V : Vw} (h : Kd K w R S) (P : Mp S T n l (el l).length V) (hc : Calm S) (h6 : T + 1 ≤ 60) (hq : tot S + 1334 ≤ 250000) (hq2 : tot S + 1334 ≤ S.q) (hm : S.calls < 68719476736) :
    Calls Tryz.prog 12 #[.pointer (some ⟨R, 0, none⟩)] w fun e w' => ∃ M S' n' T' l', e = .returned (.tuple #[.pointer (some ⟨M, 0, none⟩), .int .i64 0]) ∧ Km K w' M R n' l'.length V false S' ∧ Same K w w' ∧ w.heap.size ≤ M ∧
      Mp S' T' n' l' (el l').length V ∧ Calm S' ∧ S'.q = S.q ∧ S'.calls ≤ S.calls + 100 ∧ l'.length ≤ 30 ∧
      ((l.length ≤ 30 ∧ S' = S ∧ T' = T ∧ n' = n ∧ l' = l) ∨ (30 < l.length ∧ T' = T + 1 ∧ n' = T + 1 ∧ l'.length = 1 ∧ tot S' ≤ tot S + 1334 ∧ ∀ t, lk S'.names t ≠ 0 → t = nCur ∨ t = mnm (T + 1))) := by
  obtain ⟨rp, sp⟩ := rpE_el P.eg P.ap P.pos
  refine (kd_open_go h P.dk P.top hc.2.2 P.solo rp P.nn h6 hq hq2 hm).mono ?_
  rintro e w' ⟨hs, q1, q2⟩
  by_cases h30 : l.length ≤ 30
  · obtain ⟨M, rfl, k, hb, hM⟩ := q1 ⟨rfl, by omega⟩
    rw [sp] at k
    exact ⟨M, S, n, T, l, rfl, k, hs, hM, P, hc, rfl, by omega, h30, .inl ⟨h30, rfl, rfl, rfl, rfl⟩⟩
  · obtain ⟨E, ph, S', e1, -, -, q3⟩ := q2 (fun h => by omega)
    obtain ⟨S2, e2, hn, hk, hcl, ht, hq', P2, hf⟩ := mp_renew_calm P hc h6 hq hq2
    rw [e2] at e1
    injection e1 with a1 a2
    injection a2 with a2 a3
    subst a1 a2 a3
    obtain ⟨M, rfl, k, hM⟩ := q3 rfl
    rw [if_neg (by decide), if_neg (by decide), hn] at k
    exact ⟨M, S2, T + 1, T + 1, [wholeE V], rfl, k, hs, hM, P2, hk, hq', by omega, by simp, .inr ⟨by omega, rfl, rfl, rfl, ht, hf⟩⟩
theorem keys_in {D : DataW Unit} {N : List ByteArray} (h : HL D) (hs : ∀ s, lk D s ≠ 0 → s ∈ N) : Maps.size D ≤ N.length := by
  have hnd : ((entries D).map (·.1)).Nodup := by
    obtain ⟨es, rfl, hT⟩ := h.tidy
    exact List.pairwise_map.2 hT
  have hk : ∃ l : List ByteArray, (entries D).map (·.1) = l.map key ∧ ∀ s ∈ l, s ∈ N := by
    have : ∀ es : List (Lit × DataW Unit), (∀ p ∈ es, p ∈ entries D) → ∃ l : List ByteArray, es.map (·.1) = l.map key ∧ ∀ s ∈ l, s ∈ N := by
      intro es
      induction es with
      | nil => intro _; exact ⟨[], rfl, by simp⟩
      | cons p r ih =>
        intro hp
        obtain ⟨l, h1, h2⟩ := ih (fun q hq => hp q (List.mem_cons_of_mem _ hq))
        obtain ⟨s, es⟩ := h.keys p (hp p List.mem_cons_self)
        refine ⟨s :: l, by simp [h1, es], fun t ht => ?_⟩
        rcases List.mem_cons.1 ht with rfl | ht
        · exact hs _ (entry_lk h (hp p List.mem_cons_self) es).2
        · exact h2 t ht
    exact this _ (fun _ h => h)
  obtain ⟨l, e, hl⟩ := hk
  have hsz : Maps.size D = l.length := by
    have h1 : (entries D).length = l.length := by have := congrArg List.length e; simpa using this
    obtain ⟨es, rfl, _⟩ := h.tidy
    exact h1
  have hnl : l.Nodup := by
    rw [e] at hnd
    exact (List.pairwise_map.1 hnd).imp (fun {a b} h e => h (by rw [e]))
  have := len_sub l N hnl hl
  omega
theorem few_list {S : St} {T n : Nat} (D : Dk S T) (hd : S.dead = false) (hf : ∀ t, lk S.names t ≠ 0 → t = nCur ∨ t = mnm n) : (listS S).length ≤ 3 := by
  have h := keys_in (N := [nCur, mnm n]) D.hn (fun s hs => by rcases hf s hs with e | e <;> simp [e])
  have e : (namesL S).length = Maps.size S.names := by
    unfold namesL
    rw [List.length_mergeSort]
    obtain ⟨es, he, _⟩ := D.hn.tidy
    rw [he]
    exact List.length_map _
  unfold listS
  rw [hd]
  simp at h
  simp
  omega

end Go.Proofs.YtcahlmneancapaaGreatDoor.Clep

/- A renewal, a Save, and a file struck and laid anew, on a Disk where nothing fails; Open behind such. Up to 60 files. -/
namespace Go.Proofs.YtcahlmneancapaaGreatDoor.Clep
open Go.RowKit Go.Maps Go.Sort
set_option linter.unusedVariables false
set_option maxRecDepth 10000

theorem calm_pre {le : Nat → List Int} {S : St} {T : Nat} {W : List Int} (D : Dk S T) (h6 : T + 1 ≤ 60) (hc : Calm S) (hq : tot S + W.length + (le (T + 1)).length ≤ 250000) (hq2 : tot S + W.length + (le (T + 1)).length ≤ S.q) :
    ∃ S', preS S (T + 1) W (le (T + 1)) = (0, 2, S') ∧ Md S 0 S' ∧ S'.calls ≤ S.calls + 10 ∧ tot S' ≤ tot S + W.length + (le (T + 1)).length ∧ S'.q = S.q ∧ Dk S' (T + 1) ∧ Solo le S' (T + 1) W W.length ∧ lk S'.names nFrs = 0 := by
  have i1 : mnm (T + 1) ≠ nCur := mnm_cur (by omega) (by omega)
  have i2 : mnm (T + 1) ≠ nFrs := mnm_frs (by omega) (by omega)
  have hfree : lk S.names (mnm (T + 1)) = 0 := Classical.byContradiction fun h => by
    rcases D.now.sup _ h with h | h | ⟨k, h2, h3, h⟩
    · exact i1 h
    · exact i2 h
    · have := mnm_inj (by omega) (by omega) h; omega
  obtain ⟨E1, S1, e1⟩ : ∃ E1 S1, layS S (mnm (T + 1)) W = (E1, S1) := ⟨_, _, rfl⟩
  obtain ⟨m1, c1, k1, d1, t1, s1⟩ := lay_ok D (Nat.le_succ T) h6 (.inr (.inr ⟨T + 1, by omega, Nat.le_refl _, rfl⟩)) (mnm_okAll _ (by omega)).1 (fun _ => hfree) (by omega) (by omega) e1
  obtain ⟨n1, hc1⟩ := m1.calm hc
  subst n1
  have D1 : Dk S1 (T + 1) := by rcases d1 with h | h; exact absurd rfl h.1; exact h.1
  have l1 : lk S1.names (mnm (T + 1)) ≠ 0 := by rcases d1 with h | h; exact absurd rfl h.1; exact h.2
  obtain ⟨E2, S2, e2⟩ : ∃ E2 S2, prepS S1 (le (T + 1)) = (E2, S2) := ⟨_, _, rfl⟩
  obtain ⟨m2, c2, k2, D2, t2, s2⟩ := prep_ok D1 (by omega) (by rw [k1.q]; omega) e2
  obtain ⟨n2, hc2⟩ := m2.calm hc1
  subst n2
  have sw2 := k2.slot _ _ _ i2 (s1 rfl)
  have l2 : lk S2.names (mnm (T + 1)) ≠ 0 := by rw [k2.live _ i2]; exact l1
  obtain ⟨sf2, ho2⟩ := s2 rfl
  obtain ⟨E3, S3, e3⟩ : ∃ E3 S3, renS S2 nFrs nCur = (E3, S3) := ⟨_, _, rfl⟩
  have hfr := slot_fl D2 sf2
  obtain ⟨g, hg, g1, g2, g3⟩ := sf2
  obtain ⟨f, hf, f1, f2, f3⟩ := sw2
  have O3 := rename_op okFrs okCur cur_frs.symm hg e3
  have c3 := O3.calls
  obtain ⟨n3, hc3⟩ := O3.md.calm hc2
  subst n3
  rcases O3.res with ⟨n3, q3⟩ | ⟨-, B, q3, r3⟩
  · exact absurd rfl n3
  try simp only at r3
  have DB := q3.dk D2
  have hoB : ∀ N, Outs B N → N = lk B.names := fun N hN => by rw [q3.outs] at hN; rw [q3.names]; exact ho2 N hN
  obtain ⟨D3, l3, o3⟩ := ren_dk DB nFrs nCur cur_frs.symm (.inl rfl) (fun N hN => by rw [hoB N hN, q3.names]; exact hfr)
  rw [← r3] at D3 l3 o3
  have t3 : tot S3 = tot S2 := by rw [r3]; unfold tot; show totF B.files = _; rw [q3.files]
  have fl3 : S3.files = S2.files := by rw [r3]; exact q3.files
  have lc : lk S3.names nCur = lk S2.names nFrs := by rw [l3]; simp [q3.names]
  have lm : lk S3.names (mnm (T + 1)) = lk S2.names (mnm (T + 1)) := by rw [l3]; simp [q3.names, i1, i2]
  have lf : lk S3.names nFrs = 0 := by rw [l3]; simp [cur_frs.symm]
  have A3 : Am le S3.files (lk S3.names) (T + 1) W W.length := ⟨g, f, by rw [fl3, lc]; exact hg, g1, by rw [g2, g1], by rw [fl3, lm]; exact hf, f1, f2⟩
  have lm0 : lk S3.names (mnm (T + 1)) ≠ 0 := by rw [lm]; exact l2
  obtain ⟨E4, S4, e4⟩ : ∃ E4 S4, syncDirS S3 = (E4, S4) := ⟨_, _, rfl⟩
  have O4 := syncDir_op e4
  have c4 := O4.calls
  have Q3 : S3.q = S.q := by rw [r3]; exact q3.q.trans (k2.q.trans k1.q)
  obtain ⟨n4, hc4⟩ := O4.md.calm hc3
  subst n4
  rcases O4.res with ⟨n4, q4⟩ | ⟨-, B4, q4, r4⟩
  · exact absurd rfl n4
  have D4' := q4.dk D3
  obtain ⟨k4, D4, t4⟩ := settle_kp D4' nFrs
  have hO := (settle_dk D4').2
  rw [← r4] at k4 D4 t4 hO
  have tB4 : tot B4 = tot S3 := by unfold tot; rw [q4.files]
  have ln4 : lk S4.names = lk S3.names := by rw [r4]; show lk B4.names = _; rw [q4.names]
  have hc0 : lk S3.names nCur ≠ 0 := by rw [lc]; exact hfr
  have A4 : Am le S4.files (lk S4.names) (T + 1) W W.length := by
    refine A3.congr ?_ ?_
    · rw [ln4, ← q4.files, ← q4.names, r4]; exact settle_at B4 D4'.hn (by rw [q4.names]; exact hc0)
    · rw [ln4, ← q4.files, ← q4.names, r4]; exact settle_at B4 D4'.hn (by rw [q4.names]; exact lm0)
  refine ⟨S4, ?_, ((m1.trans m2).trans O3.md).trans O4.md, by omega, by omega, k4.q.trans (q4.q.trans Q3), D4, ⟨⟨lk S4.names (mnm (T + 1)), fun N hN => ?_⟩, by omega, by omega⟩, by rw [ln4]; exact lf⟩
  · unfold preS
    rw [e1]
    simp [e2, e3, e4]
  · have := hO N hN
    have h2 : lk B4.names = lk S4.names := by rw [ln4, q4.names]
    rw [this, h2]
    exact ⟨rfl, A4⟩
theorem calm_renew {le : Nat → List Int} {S : St} {T : Nat} {W : List Int} (D : Dk S T) (h6 : T + 1 ≤ 60) (hc : Calm S) (hq : tot S + W.length + (le (T + 1)).length ≤ 250000) (hq2 : tot S + W.length + (le (T + 1)).length ≤ S.q) :
    ∃ S', renewS S (T + 1) W (le (T + 1)) = (0, 2, S') ∧ Calm S' ∧ Dk S' (T + 1) ∧ lk S'.names (mnm (T + 1)) ≠ 0 ∧ Solo le S' (T + 1) W W.length ∧ tot S' ≤ tot S + W.length + (le (T + 1)).length ∧ S'.q = S.q ∧ S'.calls ≤ S.calls + 100 := by
  obtain ⟨S4, e4, m4, c4, t4, q4, D4, so4, f4⟩ := calm_pre D h6 hc hq hq2
  have hc4 := (m4.calm hc).2
  have hn : lk S4.names (mnm (T + 1)) ≠ 0 := by
    obtain ⟨x, hx⟩ := so4.all
    exact (at_fl D4 (hx _ D4.nm).2).2.1
  have hlen := names_len D4
  have hl2 : (if S4.dead then [] else namesL S4).length ≤ 62 := by split; simp; exact hlen
  obtain ⟨b1, b2, b3, b4, b5, b6, b7, b8, b9⟩ := sweep_ok (if S4.dead then [] else namesL S4) S4 D4 so4 hn
  refine ⟨sweepL (T + 1) (if S4.dead then [] else namesL S4) S4, ?_, b1.calm hc4, b3, b5, b4, by omega, b7.trans q4, by omega⟩
  unfold renewS
  rw [e4]
  rfl
/-- A Save where the file is there. -/
theorem calm_save {S : St} {T : Nat} {s : ByteArray} {f : Fl} {zs : List Int} (D : Dk S T) (hc : Calm S) (hok : okName s = true) (hf : fileAt S.files (lk S.names s) = some f) (hq : tot S + zs.length ≤ 250000) (hq2 : tot S + zs.length ≤ S.q) : ∃ S', saveS S s zs = (0, 2, S') ∧ Calm S' := by
  obtain ⟨E1, S1, e1⟩ : ∃ E1 S1, appendS S s zs = (E1, S1) := ⟨_, _, rfl⟩
  have O1 := append_op D hok hf hq hq2 e1
  obtain ⟨z, hc1⟩ := O1.md.calm hc
  subst z
  rcases O1.res with ⟨n1, q1⟩ | ⟨-, B, q1, r1⟩
  · exact absurd rfl n1
  try simp only at r1
  have hf1 : fileAt S1.files (lk S1.names s) = some (growF zs f) := by
    rw [r1]
    show fileAt (updF B.files f.num (growF zs)) (lk B.names s) = _
    have hA := (upd_dk (q1.dk D) f.num (growF zs) (fun f => rfl) (fun f h => by simp [growF]; omega)).2
    rw [hA, q1.names, q1.files, hf]
    simp only [Option.map_some]
    rw [if_pos (D.last hf).1]
  obtain ⟨E2, S2, e2⟩ : ∃ E2 S2, syncS S1 s = (E2, S2) := ⟨_, _, rfl⟩
  have O2 := sync_op hok hf1 e2
  obtain ⟨z, hc2⟩ := O2.md.calm hc1
  subst z
  refine ⟨S2, ?_, hc2⟩
  unfold saveS
  rw [e1]
  simp [e2]
/-- A file struck, made anew and written. -/
theorem calm_swap {S : St} {T : Nat} {s : ByteArray} {f : Fl} {zs : List Int} (D : Dk S T) (hc : Calm S) (hok : okName s = true) (hs : okM T s) (hf : fileAt S.files (lk S.names s) = some f) (hq : tot S + zs.length ≤ 250000) (hq2 : tot S + zs.length ≤ S.q) :
    ∃ S1, rmvS S s = (0, S1) ∧ Calm S1 ∧ Dk S1 T ∧ S1.calls = S.calls + 1 ∧ Kpt s S S1 ∧ lk S1.names s = 0 ∧ ∃ S2, createS S1 s = (0, S2) ∧ S2.calls = S.calls + 2 ∧ ∃ S3, appendS S2 s zs = (0, S3) ∧ Calm S3 ∧ Dk S3 T ∧ S3.calls = S.calls + 3 ∧ S3.q = S.q ∧ tot S3 ≤ tot S + zs.length ∧ Kpt s S S3 ∧ lk S3.names s ≠ 0 ∧ ∃ f', fileAt S3.files (lk S3.names s) = some f' ∧ f'.bs = zs := by
  obtain ⟨E1, S1, e1⟩ : ∃ E1 S1, rmvS S s = (E1, S1) := ⟨_, _, rfl⟩
  have O1 := remove_op hok hf e1
  obtain ⟨z, hc1⟩ := O1.md.calm hc
  subst z
  rcases O1.res with ⟨n1, q1⟩ | ⟨-, B1, q1, r1⟩
  · exact absurd rfl n1
  try simp only at r1
  obtain ⟨k1, D1, l1⟩ := rmv_kp (q1.dk D) s
  have t1 : tot S1 = tot S := by rw [r1]; unfold tot; show totF B1.files = _; rw [q1.files]
  rw [← r1] at k1 D1 l1
  have K1 := (q1.kp s).trans k1
  obtain ⟨E2, S2, e2⟩ : ∃ E2 S2, createS S1 s = (E2, S2) := ⟨_, _, rfl⟩
  have O2 := create_op D1 hok (fun _ => l1) e2
  obtain ⟨z, hc2⟩ := O2.md.calm hc1
  subst z
  rcases O2.res with ⟨n2, q2⟩ | ⟨-, B2, q2, r2⟩
  · exact absurd rfl n2
  try simp only at r2
  obtain ⟨k2, sl2, D2, l2, t2⟩ := add_kp (q2.dk D1) (Nat.le_refl T) D.sm hs
  rw [← r2] at k2 sl2 D2 l2 t2
  have K2 := K1.trans ((q2.kp s).trans k2)
  have tB2 : tot B2 = tot S1 := by unfold tot; rw [q2.files]
  obtain ⟨f2, hf2, g1, g2, g3⟩ := sl2
  obtain ⟨E3, S3, e3⟩ : ∃ E3 S3, appendS S2 s zs = (E3, S3) := ⟨_, _, rfl⟩
  have O3 := append_op D2 hok hf2 (by omega) (by rw [K2.q]; omega) e3
  obtain ⟨z, hc3⟩ := O3.md.calm hc2
  subst z
  rcases O3.res with ⟨n3, q3⟩ | ⟨-, B3, q3, r3⟩
  · exact absurd rfl n3
  try simp only at r3
  obtain ⟨k3, D3, sl3, t3⟩ := upd_kp (q3.dk D2) (s := s) (f := f2) (g := growF zs) (by rw [q3.files, q3.names]; exact hf2) (by unfold Ow at *; rw [q3.names, q3.outs]; exact g3) (fun f => rfl) (fun f h => by simp [growF]; omega)
  have l3 : lk S3.names s ≠ 0 := by rw [r3]; show lk B3.names s ≠ 0; rw [q3.names]; exact l2
  rw [← r3] at k3 D3 sl3 t3
  have t3' := t3 zs.length (fun f => by simp [growF])
  have tB3 : tot B3 = tot S2 := by unfold tot; rw [q3.files]
  obtain ⟨f3, hf3, g1', g2', g3'⟩ := sl3
  have K3 := K2.trans ((q3.kp s).trans k3)
  have c1 := O1.calls
  have c2 := O2.calls
  have c3 := O3.calls
  exact ⟨S1, e1, hc1, D1, c1, K1, l1, S2, e2, by omega, S3, e3, hc3, D3, by omega, K3.q, by omega, K3, l3, f3, hf3, by rw [g1']; simp [growF, g1]⟩
/-- Open by what is read, on a Disk where nothing fails. -/
theorem kd_open_read {K : Nat → Prop} {w : World} {R n T k : Nat} {S : St} {X Z : List Int} {V : Vw} (h : Kd K w R S) (D : Dk S T) (hT : lk S.names (mnm T) ≠ 0) (hc : Calm S) (r1 : readS S nCur = (0, Z)) (hl : ldP Z = some n) (h1 : 1 ≤ n) (h2 : n < 100) (r2 : readS S (mnm n) = (0, X)) (hr : rpE X = some (V, k)) (hu : Vnn V) (h6 : T + 1 ≤ 60) (hq : tot S + 1334 ≤ 250000) (hq2 : tot S + 1334 ≤ S.q) (hm : S.calls < 68719476736) :
    Calls Tryz.prog 12 #[.pointer (some ⟨R, 0, none⟩)] w fun e w' => Same K w w' ∧ ∃ M n' c' S', e = .returned (.tuple #[.pointer (some ⟨M, 0, none⟩), .int .i64 0]) ∧ Km K w' M R n' c' V false S' ∧ Calm S' ∧ S'.q = S.q ∧ S'.calls ≤ S.calls + 100 ∧ tot S' ≤ tot S + 1334 ∧ w.heap.size ≤ M ∧
      ((n' = n ∧ c' = (SP (X.take k)).1.length ∧ c' ≤ 30 ∧ S' = S ∧ k = X.length) ∨ (n' = T + 1 ∧ c' = 1 ∧ Mp S' (T + 1) (T + 1) [wholeE V] (el [wholeE V]).length V)) := by
  have hlt := fun i (hi : K i) => h.lt hi
  obtain ⟨F, m, hF⟩ := h
  obtain ⟨-, -, hvk⟩ := rpE_le hr
  have hw := (whB_facts (whole_may hvk hu)).2
  have hz := leB_len (T + 1)
  have hn := next_eq D hc.2.2 hT
  obtain ⟨S2, e2, hc2, D2, l2, so2, t2, q2, cl2⟩ := calm_renew (le := leB) (W := whB V) D h6 hc (by omega) (by omega)
  refine (open_any m D r1 hl h1 h2 r2 hr hu hm (by rw [hn]; omega) (fun E1 S1 e1 => ?_) (fun S4 e4 => ?_)).mono ?_
  · rw [hn] at e1
    have hfree : lk S.names (mnm (T + 1)) = 0 := Classical.byContradiction fun h => by
      rcases D.now.sup _ h with h | h | ⟨k, h2, h3, h⟩
      · exact mnm_cur (by omega) (by omega) h
      · exact mnm_frs (by omega) (by omega) h
      · have := mnm_inj (by omega) (by omega) h; omega
    obtain ⟨m1, c1, k1, d1, t1, s1⟩ := lay_ok D (Nat.le_succ _) h6 (.inr (.inr ⟨T + 1, by omega, Nat.le_refl _, rfl⟩)) (mnm_okAll _ (by omega)).1 (fun _ => hfree) (by omega) (by omega) e1
    rcases d1 with h | h
    · exact ⟨_, h.2.1⟩
    · exact ⟨_, h.1⟩
  · rw [hn] at e4
    obtain ⟨S4', e4', -, -, -, -, D4, -, -⟩ := calm_pre (le := leB) (W := whB V) D h6 hc (by omega) (by omega)
    rw [e4'] at e4
    injection e4 with _ e4
    injection e4 with _ e4
    subst e4
    exact ⟨_, D4⟩
  rintro e w' ⟨q1, q2'⟩
  by_cases hcs : k = X.length ∧ (SP (X.take k)).1.length ≤ 30
  · obtain ⟨M, F', f1, rfl, f2, f3, f4⟩ := q1 ⟨decide_eq_true hcs.1, hcs.2⟩
    exact ⟨same_of f3 hlt, M, n, _, S, rfl, ⟨⟨F', f2, fun i hi => f1 i (hF i hi)⟩, fun hK => by have := hlt _ hK; omega⟩, hc, rfl, by omega, by omega, f4, .inl ⟨rfl, rfl, hcs.2, rfl, hcs.1⟩⟩
  · obtain ⟨E, ph, S', f1, f2, f3, f4, f5⟩ := q2' (fun h => hcs ⟨of_decide_eq_true h.1, h.2⟩)
    rw [hn, e2] at f1
    injection f1 with a1 a2
    injection a2 with a2 a3
    subst a1 a2 a3
    obtain ⟨M, F', g1, rfl, g3, g4⟩ := f5 rfl
    rw [if_neg (by decide), if_neg (by decide), hn] at g3
    refine ⟨f2.mono hF, M, T + 1, 1, S2, rfl, ⟨⟨F', g3, fun i hi => g1 i (hF i hi)⟩, fun hK => by have := hlt _ hK; omega⟩, hc2, q2, cl2, by omega, g4, .inr ⟨rfl, rfl, D2, by omega, l2, ?_, fun E hE => ?_, ?_, by simp⟩⟩
    · have h3 := so2; unfold whB at h3; rw [el_one]; exact h3
    · rw [List.mem_singleton.1 hE]; exact whole_may hvk hu
    · rw [apE_cons, appl_whole hvk]; rfl

end Go.Proofs.YtcahlmneancapaaGreatDoor.Clep

/- The statement ManTorn: it answers true (a walk over the translated program). No conditions. -/
namespace Go.Proofs.YtcahlmneancapaaGreatDoor.Clep
open Go.RowKit Go.Maps Go.Sort
set_option linter.unusedVariables false
set_option maxRecDepth 10000

/-- Between two rounds of ManTorn's loop. -/
structure TrL (w wr : World) (M R i sz : Nat) (S : St) (l : List Ed) : Prop where
  km : Km (fun k => k < w.heap.size) wr M R 1 (i + 1) (flV i) false S
  mp : Mp S 1 1 l (el l).length (flV i)
  len : l.length = i + 1
  calm : Calm S
  q : S.q = 1048576
  tot : tot S ≤ 3000 + 1312 * i
  calls : S.calls ≤ 1000 + 10 * i
  prev : 0 < i → ∃ l0 E, l = l0 ++ [E] ∧ sz = (el l0).length ∧ apE zV l0 = some (flV ((i : Int) - 1))
  bel : Below w.heap.size w wr
theorem kd_append {K : Nat → Prop} {w : World} {R : Nat} {S : St} (s : ByteArray) (ao : Option Addr) (len cap : Nat) (zs : List Int) {E : Nat} {S' : St} (e : appendS S s zs = (E, S')) (h : Kd K w R S) (hm : S.calls < 1099511627776) (hs : s.size ≤ 70368744177664)
    (hb : Bs w ao len cap zs) (hl : len ≤ 70368744177664) (ht : ∀ b off, ao = some ⟨b, off, none⟩ → K b) :
    Calls Tryz.prog 22 #[.pointer (some ⟨R, 0, none⟩), .string s, .slice ao len cap] w fun e w' => e = .returned (.int .i64 E) ∧ Kd K w' R S' ∧ Same K w w' := by
  obtain ⟨F, m, hF⟩ := h
  refine (append_h s ao len cap zs e m hm hs hb hl (fun b off h => hF b (ht b off h))).mono ?_
  rintro e w' ⟨rfl, h2, h3⟩
  exact ⟨rfl, ⟨F, h2, hF⟩, h3.mono hF⟩
theorem Bs.same {F : Nat → Prop} {w w' : World} {ao : Option Addr} {len cap : Nat} {zs : List Int} (h : Bs w ao len cap zs) (hs : Same F w w') (hf : ∀ b off, ao = some ⟨b, off, none⟩ → F b) : Bs w' ao len cap zs := by
  refine ⟨h.1, h.2.1, h.2.2.1, fun h0 => ?_⟩
  obtain ⟨b, off, ho, hc⟩ := h.2.2.2 h0
  exact ⟨b, off, ho, fun i hi => (World.cell?_of_block (hs.block b (hf b off ho))).trans (hc i hi)⟩
theorem bs_cut {w : World} {ao : Option Addr} {len cap : Nat} {zs : List Int} (h : Bs w ao len cap zs) (k : Nat) (hk : k ≤ len) : Bs w ao k cap (zs.take k) := by
  have hg : ∀ i, i < k → (zs.take k).getD i 0 = zs.getD i 0 := fun i hi => by simp [List.getD, hi]
  refine ⟨by rw [List.length_take]; have := h.1; omega, ⟨by have := h.2.1.1; omega, fun e => ⟨by have := (h.2.1.2 e).1; omega, (h.2.1.2 e).2⟩⟩, fun i => ?_, fun h0 => ?_⟩
  · by_cases hi : i < k
    · rw [hg i hi]; exact h.2.2.1 i
    · simp [List.getD, List.getElem?_take, hi]
  · obtain ⟨b, off, e, hc⟩ := h.2.2.2 (by omega)
    exact ⟨b, off, e, fun i hi => by rw [hg i hi]; exact hc i (by omega)⟩
theorem el_grow (l : List Ed) (E : Ed) : (el l).length < (el (l ++ [E])).length := by
  rw [el_app, el_one, List.length_append, fr_len]; omega
theorem fileAt_solo {S : St} {T n : Nat} {X : List Int} {L : Nat} (D : Dk S T) (so : Solo leB S n X L) : ∃ f g, fileAt S.files (lk S.names (mnm n)) = some f ∧ f.bs = X ∧ fileAt S.files (lk S.names nCur) = some g ∧ g.bs = leB n := by
  obtain ⟨x, hx⟩ := so.all
  obtain ⟨-, g, f, h1, h2, h3, h4, h5, h6⟩ := hx _ D.nm
  exact ⟨f, g, h4, h5, h1, h2⟩
theorem field_Fv (w : World) (x : Int) (a : Option Addr) (c : Nat) : (Instr.field 31 (.agg #[.int .i64 1, .slice a 0 c, .int .u64 x, .int .u64 0, .int .u64 0, .int .u64 0]) 2).run Tryz.prog w = .ok (.int .u64 x) w := field_F w 1 x 0 0 0 a 0 c
theorem field_Lv (w : World) (x : Int) (a : Option Addr) (c : Nat) : (Instr.field 31 (.agg #[.int .i64 1, .slice a 0 c, .int .u64 x, .int .u64 0, .int .u64 0, .int .u64 0]) 0).run Tryz.prog w = .ok (.int .i64 1) w := field_L w 1 x 0 0 0 a 0 c
def sMan1 : ByteArray := ⟨#[109, 97, 110, 46, 49]⟩
theorem mnm_one : mnm 1 = sMan1 := by decide
set_option maxHeartbeats 8000000 in
theorem mantorn_any (n cut : Int) (w : World) :
    Calls Tryz.prog 4 #[.int .i64 n, .int .i64 cut] w fun e w' => e = .returned (.bool true) ∧ Below w.heap.size w w' := by
  obtain ⟨S1, N1⟩ := newOk_one 1048576 (by decide)
  have P1 := mp_new N1 vok_one one_nn
  have ND := hide (kd_new 1048576 w (by decide) 1048576 rfl)
  have HN1 := hide N1
  have HP1 := hide P1
  have a1 : (0 : Int) ≤ bits .and .i64 n 255 := (andi n 255 (by decide)).1
  have a2 : bits .and .i64 n 255 ≤ 255 := (andi n 255 (by decide)).2
  clear N1 P1
  go_enter Tryz.func4, Tryz.ntmps4
  go_wp2_with fail
  refine ND.out.mono ?_
  rintro e w1 ⟨R, rfl, D1, s1⟩
  have NM := hide (km_new none 0 0 oneV D1 (fs_nil w1) (by decide) vok_one one_nn HN1.out)
  have HS1 := hide s1
  unfold vwV oneV at NM
  clear ND D1 s1
  go_wp2_with fail
  refine NM.out.mono ?_
  rintro e w2 ⟨M, rfl, K2, s2, -⟩
  have S0 := hide (show TrL w w2 M R 0 0 S1 [wholeE oneV] from by
    have h1 := one_len
    have h2 := leB_len 1
    have ht := HN1.out.tot
    have hcl := HN1.out.calls
    exact ⟨K2, HP1.out, rfl, HN1.out.calm, HN1.out.q, by omega, by omega, fun h => absurd h (Nat.lt_irrefl 0), (HS1.out.below (fun i hi => hi)).trans ((s2.below (fun i hi => hi)))⟩)
  clear NM K2 s2 HN1 HP1 HS1
  go_wp2_with fail
  obtain ⟨N, hN, hN1, hN20⟩ : ∃ N : Nat, bits .and .i64 n 255 % 20 + 1 = (N : Int) ∧ 1 ≤ N ∧ N ≤ 20 := ⟨(bits .and .i64 n 255 % 20 + 1).toNat, by omega, by omega, by omega⟩
  rw [hN]
  clear hN a1 a2
  go_loopw [8, 9] (fun s8 s9 wr => ∃ i sz S l, i ≤ N ∧ s8 = .int .i64 (sz : Nat) ∧ s9 = .int .i64 (i : Nat) ∧ Hid (TrL w wr M R i sz S l)) (fun _ t _ => N - (intOf t).toNat)
  case atStart => exact ⟨0, 0, S1, _, by omega, rfl, rfl, S0⟩
  case round =>
    obtain ⟨i, sz, S, l, hi, rfl, rfl, hst⟩ := hrel
    clear S0
    by_cases hlt : i < N
    · have q1 : (i : Int) < (N : Int) := by omega
      have NA := hide (km_name hst.out.km (by decide) (by decide))
      have rd := (solo_reads hst.out.mp.dk hst.out.calm.2.2 hst.out.mp.solo).2
      have RD := hide (kd_read (mnm 1) rd hst.out.km.kd (by decide))
      rw [mnm_one] at NA RD
      unfold sMan1 at NA RD
      clear rd
      go_wp2_with fail
      refine NA.out.mono ?_
      rintro e w3 ⟨rfl, rfl⟩
      clear NA
      go_wp2_with fail
      refine RD.out.mono ?_
      rintro e w4 ⟨ao, cap, rfl, -, hb4⟩
      have hEg := flE_good (x := (i : Int) + 1) (by omega) (by omega)
      have hAp : appl (flV i) (flE ((i : Int) + 1)) = some (flV ((i : Int) + 1)) := flE_appl0 (by omega) (by omega)
      have htot := hst.out.tot
      have hclS := hst.out.calls
      obtain ⟨S', sv, hcalm, hcl, htt, hqq, hnm, hmp⟩ := mp_save_calm hst.out.mp hst.out.calm hEg hAp (by omega) (by have := hst.out.q; omega)
      have hqS : S'.q = 1048576 := hqq.trans hst.out.q
      have hlenS : (l ++ [flE ((i : Int) + 1)]).length = i + 1 + 1 := by rw [List.length_append, hst.out.len]; rfl
      have SV := hide (km_save (hst.out.km.below hb4) none none 0 0 0 0 (flE ((i : Int) + 1)) (zs_nil _) (fs_nil _) (by decide) (by decide) hEg.2 hst.out.mp.vok (by decide) (by decide) (by omega) (by omega))
      have HEG := hide hEg
      have HAP := hide hAp
      have HSV := hide sv
      have HCM := hide hcalm
      have HMP := hide hmp
      have HLS := hide hlenS
      have HPV := hide (show ∃ l0 E, l ++ [flE ((i : Int) + 1)] = l0 ++ [E] ∧ (el l).length = (el l0).length ∧ apE zV l0 = some (flV (((i + 1 : Nat) : Int) - 1)) from ⟨l, _, rfl, rfl, by rw [show (((i + 1 : Nat) : Int) - 1) = (i : Int) by omega]; exact hst.out.mp.ap⟩)
      have HB4 := hide (hst.out.bel.trans (hb4.mono hst.out.bel.size))
      unfold edV flE at SV
      clear hst hEg hAp sv hcalm hmp hnm hlenS RD hb4
      go_wp2_with fail
      refine SV.out.mono ?_
      rintro e w5 ⟨s5, -, q5⟩
      obtain ⟨E1, ph, S2, r1, rfl, k5⟩ := q5 (flV ((i : Int) + 1)) HEG.out.1 HAP.out
      have r2 := HSV.out
      unfold flE at r2
      rw [mnm_one] at r1 r2
      rw [r2] at r1
      injection r1 with a1 a2
      injection a2 with a2 a3
      subst a1 a2 a3
      have HST := hide (show TrL w w5 M R (i + 1) (el l).length S' (l ++ [flE ((i : Int) + 1)]) from ⟨by simpa using k5, HMP.out, HLS.out, HCM.out, hqS, by omega, by omega, fun _ => HPV.out, HB4.out.trans (s5.below fun j hj => hj)⟩)
      clear SV q5 k5 r2 HEG HAP HSV HCM HMP HLS s5 HPV HB4
      go_wp2_with fail
      go_roundw
      case rel => exact ⟨i + 1, _, S', _, by omega, rfl, by go_num, HST⟩
      case measure => simp [intOf]; omega
    · obtain rfl : i = N := by omega
      have q1 : ¬ (i : Int) < (i : Int) := by omega
      have NA := hide (km_name hst.out.km (by decide) (by decide))
      have rd := (solo_reads hst.out.mp.dk hst.out.calm.2.2 hst.out.mp.solo).2
      have RD := hide (kd_read (mnm 1) rd hst.out.km.kd (by decide))
      rw [mnm_one] at NA RD
      unfold sMan1 at NA RD
      go_wp2_with fail
      refine NA.out.mono ?_
      rintro e w3 ⟨rfl, rfl⟩
      clear NA
      go_wp2_with fail
      refine RD.out.mono ?_
      rintro e w4 ⟨ao, cap, rfl, ho4, hb4⟩
      clear RD
      obtain ⟨l0, E0, rfl, rfl, hap0⟩ := hst.out.prev (by omega)
      obtain ⟨F0, hF0, -⟩ := hst.out.km.kd
      obtain ⟨hby, hbl⟩ := held_bytes hF0 rd
      obtain ⟨f0, g0, hf0, hfb, hg0, hgb⟩ := fileAt_solo hst.out.mp.dk hst.out.mp.solo
      have hgrow := el_grow l0 E0
      have htot := hst.out.tot
      have hclS := hst.out.calls
      have hlen := hst.out.len
      have hqS := hst.out.q
      rw [List.length_append, List.length_singleton] at hlen
      obtain ⟨L, hL⟩ : ∃ L, (el (l0 ++ [E0])).length = L := ⟨_, rfl⟩
      obtain ⟨Z, hZ⟩ : ∃ Z, (el l0).length = Z := ⟨_, rfl⟩
      have hL25 : L ≤ 1312 * 21 := by
        rw [← hL]
        have := el_len (l0 ++ [E0]) hst.out.mp.eg
        rw [List.length_append, List.length_singleton] at this
        omega
      rw [hL, hZ] at hgrow
      have c1 : (0 : Int) ≤ bits .and .i64 cut 255 := (andi cut 255 (by decide)).1
      obtain ⟨k, hk, hk1, hk2⟩ : ∃ k : Nat, (Z : Int) + bits .and .i64 cut 255 % ((L : Int) - Z) = (k : Int) ∧ Z ≤ k ∧ k < L := by
        have m1 := Int.emod_nonneg (bits .and .i64 cut 255) (show ((L : Int) - Z) ≠ 0 by omega)
        have m2 := Int.emod_lt_of_pos (bits .and .i64 cut 255) (show (0 : Int) < (L : Int) - Z by omega)
        exact ⟨((Z : Int) + bits .and .i64 cut 255 % ((L : Int) - Z)).toNat, by omega, by omega, by omega⟩
      have hbs := own_bs ho4 (fun i => by
        rcases Nat.lt_or_ge i (el (l0 ++ [E0])).length with h | h
        · have := hby _ (List.getElem_mem h)
          simpa [List.getD, List.getElem?_eq_getElem h] using this
        · simp [List.getD, List.getElem?_eq_none h])
      obtain ⟨ao', cap', e0, hcm, hbs, hin⟩ := hbs
      injection e0 with e1 e2 e3
      subst e1 e3
      rw [hL] at hbs
      have hkcap : k ≤ cap := by have := hbs.2.1.1; omega
      obtain ⟨S1, t1, k1, D1, u1, K1, -, S2, t2, u2, S3, t3, k3, D3, u3, q3, v3, K3, l3, f3, hf3, hf3b⟩ := calm_swap (zs := (el (l0 ++ [E0])).take k) hst.out.mp.dk hst.out.calm (by decide) (.inr (.inr ⟨1, by omega, by omega, rfl⟩)) hf0 (by rw [List.length_take]; omega) (by rw [List.length_take]; omega)
      have hr := rpE_cut hst.out.mp.eg l0.length k (V := flV ((i : Int) - 1)) (by rw [List.take_left']; exact hap0; rfl) (by simp) (by rw [hL]; omega) (by unfold een; rw [List.take_left' rfl, hZ]; exact hk1) (fun _ => by rw [een_all _ _ (by simp), hL]; exact hk2)
      rw [if_neg (by omega)] at hr
      have hVnn : Vnn (flV ((i : Int) - 1)) := ⟨by show (0 : Int) ≤ (i : Int) - 1; omega, Int.le_refl 0, Int.le_refl 0, Int.le_refl 0⟩
      obtain ⟨-, -, hvk⟩ := rpE_le hr
      have r1 : readS S3 nCur = (0, leB 1) := by
        have hne : nCur ≠ mnm 1 := by decide
        have hc0 : lk S.names nCur ≠ 0 := fun e => by rw [e, hst.out.mp.dk.zero] at hg0; cases hg0
        have := readS_at D3 k3.2.2 okCur (f := g0) (by rw [K3.live _ hne, K3.file _ hne hc0]; exact hg0)
        rw [this, hgb]
      have r2 : readS S3 (mnm 1) = (0, (el (l0 ++ [E0])).take k) := by
        have := readS_at D3 k3.2.2 (by decide) hf3
        rw [this, hf3b]
      have hvt : tot S3 ≤ tot S + L := by rw [List.length_take] at v3; omega
      have Kw := hst.out.km.kd.wide hb4
      have RM := hide (kd_remove (mnm 1) t1 Kw (by omega) (by decide))
      have CR := hide (fun W (h : Kd (fun j => j < w.heap.size ∨ (w3.heap.size ≤ j ∧ j < w4.heap.size)) W R S1) => kd_create (mnm 1) t2 h (by omega) (by decide))
      have AP := hide (fun W (h : Kd (fun j => j < w.heap.size ∨ (w3.heap.size ≤ j ∧ j < w4.heap.size)) W R S2) (hs : Same (fun j => j < w.heap.size ∨ (w3.heap.size ≤ j ∧ j < w4.heap.size)) w4 W) => kd_append (mnm 1) ao k cap ((el (l0 ++ [E0])).take k) t3 h (by omega) (by decide) (bs_cut (hbs.same hs (fun b off e => .inr ⟨(hin b off e).1, (hin b off e).2.1⟩)) k (by omega)) (by omega) (fun b off e => .inr ⟨(hin b off e).1, (hin b off e).2.1⟩))
      have OP := hide (fun W (h : Kd (fun j => j < w.heap.size ∨ (w3.heap.size ≤ j ∧ j < w4.heap.size)) W R S3) => kd_open_read h D3 l3 k3 r1 (ldP_leB (by decide) (by decide)) (by decide) (by decide) r2 hr hVnn (by decide) (by omega) (by omega) (by omega))
      have HB4 := hide (hst.out.bel.trans (hb4.mono hst.out.bel.size))
      have HVK := hide hvk
      have HNN := hide hVnn
      have HD3 := hide D3
      have HC3 := hide k3
      have HF3 := hide hf3
      have hlL : (L : Int) ≤ ↑L := Int.le_refl _
      rw [mnm_one] at RM CR AP
      unfold sMan1 at RM CR AP
      clear hst hr hvk hVnn r1 r2 hbs hin Kw K3 K1 D1 D3 k1 k3 t1 t2 t3 hf0 hg0 hfb hgb hf3 hf3b hap0 hF0 hby ho4 hb4 rd
      rw [hL]
      have q2 : ¬ (L : Int) ≤ (Z : Int) := by omega
      go_wp2_with fail
      refine RM.out.mono ?_
      rintro e w5 ⟨rfl, kd5, s5⟩
      have CR5 := hide (CR.out w5 kd5)
      have S5 := hide s5
      clear RM CR kd5 s5
      go_wp2_with fail
      refine CR5.out.mono ?_
      rintro e w6 ⟨rfl, kd6, s6⟩
      have AP6 := hide (AP.out w6 kd6 (S5.out.trans s6))
      have S6 := hide (S5.out.trans s6)
      have q3 : ¬ (L : Int) - (Z : Int) = 0 := by omega
      clear CR5 AP kd6 s6 S5
      go_upto_region 19 with fail
      try rw [hk]
      have q4 : (k : Int) ≤ (cap : Int) := by omega
      have q5 : (0 : Int) ≤ (k : Int) := by omega
      clear hk c1
      go_wp2_with fail
      refine AP6.out.mono ?_
      rintro e w7 ⟨rfl, kd7, s7⟩
      have OP7 := hide (OP.out w7 kd7)
      have S7 := hide (S6.out.trans s7)
      clear AP6 OP kd7 s7 S6
      go_wp2_with fail
      refine OP7.out.mono ?_
      rintro e w8 ⟨s8, M8, n8, c8, S8, rfl, k8, cm8, q8, cl8, to8, -, hcase⟩
      have hB8 := hide (HB4.out.trans ((S7.out.trans s8).below (B := w.heap.size) (fun j hj => .inl hj)))
      have hEg := flE_good (x := (77 : Int)) (by decide) (by decide)
      have hAp : appl (flV ((i : Int) - 1)) (flE 77) = some (flV 77) := flE_appl0 (by decide) (by decide)
      obtain ⟨S9, sv, -⟩ : ∃ S9, saveS S8 (mnm n8) (fr 6 (ebd (flE 77))) = (0, 2, S9) ∧ True := by
        rcases hcase with ⟨rfl, rfl, -, rfl, -⟩ | ⟨rfl, rfl, P8⟩
        · obtain ⟨S9, h, -⟩ := calm_save (zs := fr 6 (ebd (flE 77))) HD3.out HC3.out (by decide) HF3.out (by have := el_len [flE 77] (fun D hD => by rw [List.mem_singleton.1 hD]; exact hEg); rw [el_one] at this; simp at this; omega) (by have := el_len [flE 77] (fun D hD => by rw [List.mem_singleton.1 hD]; exact hEg); rw [el_one] at this; simp at this; omega)
          exact ⟨S9, h, trivial⟩
        · obtain ⟨S9, h, -⟩ := mp_save_calm P8 cm8 hEg hAp (by omega) (by omega)
          exact ⟨S9, h, trivial⟩
      have hn8 : 1 ≤ n8 ∧ n8 < 100 ∧ c8 ≤ 30 := by
        rcases hcase with ⟨rfl, -, h, -, -⟩ | ⟨rfl, rfl, -⟩
        · exact ⟨by decide, by decide, h⟩
        · exact ⟨by omega, by omega, by decide⟩
      have VW := hide (km_view k8 (Nat.zero_le _))
      have SV := hide (fun W (hW : Below w8.heap.size w8 W) => km_save (k8.below hW) none none 0 0 0 0 (flE 77) (zs_nil _) (fs_nil _) (by decide) (by decide) hEg.2 HVK.out hn8.1 hn8.2.1 (by omega) (by omega))
      have K8 := hide k8
      have HEG := hide hEg
      have HAP := hide hAp
      have HSV := hide sv
      clear hcase OP7 k8 s8 hEg hAp sv HD3 HC3 HF3 HB4 S7
      unfold vwV flV at VW
      simp only [List.length_nil] at VW
      unfold edV flE at SV
      go_wp2_with fail
      refine VW.out.mono ?_
      rintro e w9 ⟨a, c', rfl, -, -, k9, hb9⟩
      have hf1 := fun W => field_Fv W ((i : Int) - 1) a c'
      have VW2 := hide (km_view k9 (Nat.zero_le _))
      have HB9 := hide hb9
      clear VW k9 hb9
      unfold vwV at VW2
      simp only [List.length_nil] at VW2
      go_wp2_with fail
      refine VW2.out.mono ?_
      rintro e w10 ⟨a2, c2, rfl, -, -, -, hb10⟩
      have hf2 := fun W => field_Lv W ((i : Int) - 1) a2 c2
      have HB10 := hide (bmore HB9.out hb10)
      have SV2 := hide (SV.out w10 HB10.out)
      clear VW2 hb10 HB9 SV
      go_wp2_with fail
      refine SV2.out.mono ?_
      rintro e w11 ⟨s11, -, q11⟩
      obtain ⟨E1, ph, S10, r1, rfl, k11⟩ := q11 (flV 77) HEG.out.1 HAP.out
      have r2 := HSV.out
      unfold flE at r2
      rw [r2] at r1
      injection r1 with a1 a2
      injection a2 with a2 a3
      subst a1 a2 a3
      have HB11 := hide ((hB8.out.trans (HB10.out.mono hB8.out.size)).trans (s11.below (B := w.heap.size) (fun j hj => .inl hj)))
      have VW3 := hide (km_view (br := false) (V := flV 77) (by simpa using k11) (Nat.zero_le _))
      clear SV2 q11 k11 r2 HEG HAP HSV s11 hB8 HB10 hf1 hf2
      unfold vwV flV at VW3
      simp only [List.length_nil] at VW3
      go_wp2_with fail
      refine VW3.out.mono ?_
      rintro e w12 ⟨a3, c3, rfl, -, -, -, hb12⟩
      have hf3 := fun W => field_Fv W 77 a3 c3
      have HB12 := hide (HB11.out.trans (hb12.mono HB11.out.size))
      have AW := hide (mawake_any w12)
      clear VW3 hb12 HB11
      go_wp2_with fail
      refine AW.out.mono ?_
      rintro e w13 ⟨rfl, hb13⟩
      have HB13 := hide (HB12.out.trans (hb13.mono HB12.out.size))
      clear AW HB12 hb13
      go_wp2
      go_ret
      exact ⟨rfl, HB13.out⟩

end Go.Proofs.YtcahlmneancapaaGreatDoor.Clep
