/- What is read of a manifest's files that were changed: numbers that are not below nought; a current of which one byte was turned, or that was cut, leads nowhere. No conditions. -/
import Derived.Test.YtcahlmneancapabGreatDoorFh27
import Derived.Test.YtcahlmneancapabGreatDoorFh14
import Derived.Lib.ConvBytes
import Derived.Test.YtcahlmneancapabGreatDoorFh24
import Derived.Test.YtcahlmneancapabGreatDoorFh08
import Derived.Test.YtcahlmneancapabGreatDoorFh11
import Derived.Test.YtcahlmneancapabGreatDoorFh25
namespace Go.Proofs.YtcahlmneancapabGreatDoor.Clep
open Go.RowKit Go.Maps Go.Sort
set_option linter.unusedVariables false
set_option maxRecDepth 10000

theorem SP_bytes : ∀ (m : Nat) (X : List Int), X.length ≤ m → ByteL X → ∀ x ∈ (SP X).1, ByteL x.2
  | m, X, h, hX => by
    by_cases h0 : X = []
    · rw [h0, SP_nil]; intro x hx; cases hx
    · by_cases hc : ce X = 0
      · have hp := List.length_pos_iff.2 h0
        match m, h with
        | 0, h => omega
        | m + 1, h =>
          rw [SP_good X hc]
          intro x hx
          rcases List.mem_cons.1 hx with rfl | hx
          · intro z hz
            exact hX z (List.mem_of_mem_take (List.mem_of_mem_drop (List.mem_of_mem_take hz)))
          · exact SP_bytes m _ (by rw [List.length_drop]; omega) (hX.drop _) x hx
      · rw [SP_bad X h0 hc]; intro x hx; cases hx
theorem red_nn {X : List Int} (hX : ByteL X) {E : Ed} (h : red X = some E) : 0 ≤ E.fl ∧ 0 ≤ E.ct ∧ 0 ≤ E.at9 ∧ 0 ≤ E.ls := by
  unfold red at h
  split at h
  · injection h with h
    subst h
    have h1 : ByteL (s1X X).1 := (rt_range _ (hX.drop _)).2
    exact ⟨(nr_range _ h1 _).1, (nr_range _ h1 _).1, (nr_range _ h1 _).1, (nr_range _ h1 _).1⟩
  · cases h
theorem fE_nn : ∀ (F : List (Int × List Int)) (V U : Vw), fE V F = some U → Vnn V → (∀ x ∈ F, ByteL x.2) → Vnn U
  | [], V, U, h, hV, _ => by injection h with h; rw [← h]; exact hV
  | x :: r, V, U, h, hV, hx => by
    rw [fE_cons] at h
    split at h
    · cases hr : red x.2 with
      | none => rw [hr] at h; cases h
      | some E =>
        rw [hr] at h
        cases ha : appl V E with
        | none => simp only [ha] at h; cases h
        | some Y =>
          simp only [ha] at h
          exact fE_nn r Y U h (appl_nn ha hV (red_nn (hx x List.mem_cons_self) hr)) (fun y hy => hx y (List.mem_cons_of_mem _ hy))
    · cases h
theorem rpE_nn {X : List Int} {V : Vw} {k : Nat} (hX : ByteL X) (h : rpE X = some (V, k)) : Vnn V := by
  unfold rpE at h
  split at h
  · cases hf : fE zV (SP X).1 with
    | none => rw [hf] at h; cases h
    | some U =>
      rw [hf] at h
      injection h with h
      injection h with h _
      subst h
      exact fE_nn _ zV U hf zV_nn (SP_bytes _ X (Nat.le_refl _) hX)
  · cases h
theorem lead_apart : ∀ v : Nat, v < 128 → v ≠ 1 → le4 (crc [(v : Int)]) 4 ≠ le4 (crc [1]) 4 := by decide +kernel
theorem fr_one (v : Int) : fr 8 [v] = sl (hd 8 1) ++ (v :: le4 (crc [v]) 4) := rfl
theorem leB_one : leB 1 = fr 8 [1] := rfl
/-- A current that is turned at one byte at most, or cut, and is another one, leads nowhere. -/
theorem ld_near {Z : List Int} (hZ : ByteL Z) (k : Nat) (x : Int) (m : Nat) (e : Z = ((leB 1).set k x).take m) (hne : Z ≠ leB 1) : ldP Z = none := by
  unfold ldP
  split
  · rename_i h
    exfalso
    obtain ⟨h1, h2, h3, h4, h5, h6, h7⟩ := h
    have hl13 : Z.length ≤ 13 := by
      rw [e, List.length_take, List.length_set]
      have : (leB 1).length = 13 := by decide +kernel
      omega
    have hcan := fr_canon Z hZ h1
    have hlr := ln_range Z (range_of hZ)
    rw [List.take_of_length_le (by omega), h2] at hcan
    have hbl := bo_len Z h1
    have hbb : ByteL (bo Z) := fun z hz => hZ z (List.mem_of_mem_take (List.mem_of_mem_drop (List.mem_of_mem_take hz)))
    generalize bo Z = B at *
    match B, hbl with
    | [], hbl => rw [tk] at h4; exact absurd h4 (by decide)
    | v :: [], hbl =>
      have hv := hbb v (by simp)
      have hv1 : 1 ≤ v ∧ v < 128 := by
        rw [tk, if_neg (by omega)] at h4 h6
        by_cases h128 : 128 ≤ v
        · rw [if_pos h128, tk] at h4; exact absurd h4 (by decide)
        · rw [if_neg h128, if_neg (by omega)] at h6
          simp at h6
          omega
      obtain ⟨n, rfl⟩ : ∃ n : Nat, v = (n : Int) := ⟨v.toNat, by omega⟩
      by_cases hn1 : n = 1
      · subst hn1
        exact hne (by rw [hcan, leB_one]; rfl)
      · have hap := lead_apart n (by omega) hn1
        have hlz : Z.length = 13 := by rw [hcan, fr_len]; rfl
        have e2 : Z = (leB 1).set k x := by
          rw [e, List.length_take, List.length_set] at hlz
          have h13 : (leB 1).length = 13 := by decide +kernel
          rw [e, List.take_of_length_le (by rw [List.length_set]; omega)]
        have hg : ∀ i, i ≠ k → Z[i]? = (leB 1)[i]? := fun i hi => by rw [e2, List.getElem?_set_ne (fun h => hi h.symm)]
        rw [hcan, leB_one, fr_one, fr_one] at hg
        have hs8 : (sl (hd 8 1)).length = 8 := rfl
        by_cases hk : k = 8
        · refine hap (List.ext_getElem? fun j => ?_)
          have := hg (9 + j) (by omega)
          rw [List.getElem?_append_right (by omega), List.getElem?_append_right (by omega), hs8, show 9 + j - 8 = j + 1 by omega] at this
          simpa using this
        · have := hg 8 (fun h => hk h.symm)
          rw [List.getElem?_append_right (by omega), List.getElem?_append_right (by omega), hs8] at this
          simp at this
          omega
    | _ :: _ :: _, hbl =>
      simp at hbl
      omega
  · rfl

end Go.Proofs.YtcahlmneancapabGreatDoor.Clep

/- A text turned into bytes: a row that may be written. Conditions: at most 2^63 bytes. -/
namespace Go.Proofs.YtcahlmneancapabGreatDoor.Clep
open Go.RowKit
set_option linter.unusedVariables false
set_option maxRecDepth 10000

/-- A row of bytes in block g, with room up to cap, that may be written. -/
structure Rm (w : World) (g cap : Nat) (zs : List Int) : Prop where
  le : zs.length ≤ cap
  max : cap ≤ maxLen
  range : ∀ z ∈ zs, 0 ≤ z ∧ z < 256
  cell : ∀ i, i < zs.length → w.cell? ⟨g, i, none⟩ = some (.int .u8 (zs.getD i 0))
  some : ∀ i, i < cap → (w.cell? ⟨g, i, none⟩).isSome = true
  free : ∀ i, i < cap → w.frozen? ⟨g, i, none⟩ = false
theorem rm_str (w : World) (zs : List Int) (hz : ∀ z ∈ zs, 0 ≤ z ∧ z < 256) (hl : zs.length ≤ maxLen) : ∃ cap w', (convert 9 42 (.string (strOfNums zs))).run Tryz.prog w = .ok (.slice (some ⟨w.heap.size, 0, none⟩) zs.length cap) w' ∧
    zs.length ≤ cap ∧ Hid (Below w.heap.size w w') ∧ Hid (Rm w' w.heap.size cap zs) := by
  have hs := str_size zs
  have hrun := Go.Lib.run_convert_string_bytes (P := Tryz.prog) w 9 42 5 (strOfNums zs) Tryz.underlying9 Tryz.underlying42 Tryz.underlying5
  rw [hs] at hrun
  have hge := grownCap_ge w zs.length 0 5
  have hcs : (Go.Lib.bytesCells w 5 (strOfNums zs)).size = grownCap w zs.length 0 5 := by
    have h1 : (strOfNums zs).data.size = zs.length := hs
    simp only [Go.Lib.bytesCells, Array.size_append, Array.size_map, Array.size_replicate, h1, hs]
    omega
  refine ⟨_, _, hrun, hge, hide ?_, hide ⟨hge, grownCap_le_maxLen _ _ _ _ hl, hz, fun i hi => ?_, fun i hi => ?_, fun i hi => ?_⟩⟩
  · exact ⟨rfl, rfl, rfl, by rw [Go.Lib.bytesWorld_size]; omega, fun k hk => Go.Lib.bytesWorld_at_old w _ _ k hk⟩
  · rw [Go.Lib.bytesWorld_cell w _ _ i (by rw [hs]; exact hi)]
    have hr := hz (zs[i]) (List.getElem_mem hi)
    simp [strOfNums, List.getD, List.getElem?_eq_getElem hi]
    omega
  · simp only [World.cell?, Go.Lib.bytesWorld_at_new]
    rw [Array.getElem?_eq_getElem (by rw [hcs]; exact hi)]
    rfl
  · simp only [World.frozen?, Go.Lib.bytesWorld_at_new]
    simp [hcs]
    omega
theorem xor_range (a b : Int) : 0 ≤ bits BinOp.xor IntKind.u8 a b ∧ bits BinOp.xor IntKind.u8 a b < 256 := by
  have e : bits .xor .u8 a b = IntKind.u8.wrap ((BitVec.ofInt 8 a ^^^ BitVec.ofInt 8 b).toNat : Int) := rfl
  rw [e]
  simp [IntKind.wrap, IntKind.bits, IntKind.signed]
  omega
theorem Rm.set {w : World} {g cap : Nat} {zs : List Int} (h : Rm w g cap zs) (p : Nat) (hp : p < zs.length) (v : Int) (hv : 0 ≤ v ∧ v < 256) : Rm (w.setCell ⟨g, p, none⟩ (.int .u8 v)) g cap (zs.set p v) := by
  refine ⟨by rw [List.length_set]; exact h.le, h.max, fun z hz => ?_, fun i hi => ?_, fun i hi => ?_, fun i hi => ?_⟩
  · rcases List.mem_or_eq_of_mem_set hz with q | rfl
    · exact h.range z q
    · exact hv
  · rw [List.length_set] at hi
    by_cases e : i = p
    · subst e
      rw [World.cell?_setCell_same w ⟨g, i, none⟩ _ (h.cell i hi)]
      simp [List.getD, hi]
    · rw [World.cell?_setCell_other w ⟨g, p, none⟩ ⟨g, i, none⟩ _ (by intro q; injection q with q1 q2; omega), h.cell i hi]
      simp [List.getD, Ne.symm e]
  · by_cases e : i = p
    · subst e
      rw [World.cell?_setCell_same w ⟨g, i, none⟩ _ (h.cell i hp)]; rfl
    · rw [World.cell?_setCell_other w ⟨g, p, none⟩ ⟨g, i, none⟩ _ (by intro q; injection q with q1 q2; omega)]
      exact h.some i hi
  · simp [h.free i hi]

end Go.Proofs.YtcahlmneancapabGreatDoor.Clep

/- What a loss of power may leave, whatever is kept; the calls Crash, Stop, Fail, Dead beside a Manifest. Up to 60 files, 250,000 bytes. -/
namespace Go.Proofs.YtcahlmneancapabGreatDoor.Clep
open Go.RowKit Go.Maps Go.Sort
set_option linter.unusedVariables false
set_option maxRecDepth 10000

/-- Where all lasts a loss of power takes nothing. -/
theorem mp_crash_calm {S : St} {T n : Nat} {l : List Ed} {V : Vw} (h : Mp S T n l (el l).length V) (ks : List Int) :
    ∃ T', T' ≤ T ∧ Mp (crashS S ks) T' n l (el l).length V ∧ Calm (crashS S ks) ∧ (crashS S ks).calls = S.calls ∧ (crashS S ks).q = S.q ∧ tot (crashS S ks) ≤ tot S := by
  obtain ⟨x, hx⟩ := h.solo.all
  obtain ⟨c, cl, q, t, -, T', h1, h2, D, l1, n', X, L, K, ⟨rfl, rfl, rfl⟩, h3, h4, so⟩ := crash_ok ks (fun n' X L => n' = n ∧ X = el l ∧ L = (el l).length) h.dk (fun N hN => ⟨n, _, _, h.solo.low, (hx N hN).2, rfl, rfl, rfl⟩) rfl
  have hK : K = (el l).length := by omega
  rw [hK, List.take_length] at so
  exact ⟨T', h2, ⟨D, h1, l1, so, h.eg, h.ap, h.pos⟩, c, cl, q, t⟩
/-- Whatever a loss of power leaves opens, as a View of G. -/
structure Good (S : St) (T : Nat) (G : Vw → Prop) : Prop where
  dk : Dk S T
  low : 1 ≤ T
  top : lk S.names (mnm T) ≠ 0
  all : ∀ N, Outs S N → ∃ n X L, (1 ≤ n ∧ n < 100) ∧ Am leB S.files N n X L ∧ ∀ K, L ≤ K → K ≤ X.length → ∃ V k, rpE (X.take K) = some (V, k) ∧ G V ∧ Vnn V
theorem Good.mono {S : St} {T : Nat} {G H : Vw → Prop} (h : Good S T G) (hg : ∀ V, G V → H V) : Good S T H :=
  ⟨h.dk, h.low, h.top, fun N hN => by
    obtain ⟨n, X, L, a, b, c⟩ := h.all N hN
    exact ⟨n, X, L, a, b, fun K h1 h2 => by obtain ⟨V, k, d, e, f⟩ := c K h1 h2; exact ⟨V, k, d, hg V e, f⟩⟩⟩
/-- A Disk that reads as a View, all of which lasts. -/
structure Lone (S : St) (T n : Nat) (X : List Int) (V : Vw) (k : Nat) : Prop where
  dk : Dk S T
  low : 1 ≤ T
  top : lk S.names (mnm T) ≠ 0
  solo : Solo leB S n X X.length
  rd : rpE X = some (V, k)
  nn : Vnn V
theorem Lone.good {S : St} {T n k : Nat} {X : List Int} {V : Vw} (h : Lone S T n X V k) {G : Vw → Prop} (hG : G V) : Good S T G :=
  ⟨h.dk, h.low, h.top, fun N hN => by
    obtain ⟨x, hx⟩ := h.solo.all
    exact ⟨n, X, X.length, h.solo.low, (hx N hN).2, fun K h1 h2 => ⟨V, k, by rw [List.take_of_length_le h1]; exact h.rd, hG, h.nn⟩⟩⟩
theorem Mp.lone {S : St} {T n : Nat} {l : List Ed} {V : Vw} (h : Mp S T n l (el l).length V) : Lone S T n (el l) V (el l).length :=
  ⟨h.dk, h.low, h.top, h.solo, (rpE_el h.eg h.ap h.pos).1, h.nn⟩
theorem good_crash {S : St} {T : Nat} {G : Vw → Prop} (h : Good S T G) (ks : List Int) :
    ∃ T' n X V k, T' ≤ T ∧ Lone (crashS S ks) T' n X V k ∧ G V ∧ Calm (crashS S ks) ∧ (crashS S ks).calls = S.calls ∧ (crashS S ks).q = S.q ∧ tot (crashS S ks) ≤ tot S := by
  obtain ⟨c, cl, q, t, -, T', h1, h2, D, l1, n, X, L, K, hP, h3, h4, so⟩ := crash_ok ks (fun n X L => ∀ K, L ≤ K → K ≤ X.length → ∃ V k, rpE (X.take K) = some (V, k) ∧ G V ∧ Vnn V) h.dk (fun N hN => by obtain ⟨n, X, L, a, b, c⟩ := h.all N hN; exact ⟨n, X, L, a, b, c⟩) rfl
  obtain ⟨V, k, r, g, v⟩ := hP K h3 h4
  have hl : (X.take K).length = K := by rw [List.length_take]; omega
  exact ⟨T', n, X.take K, V, k, h2, ⟨D, h1, l1, by rw [hl]; exact so, r, v⟩, g, c, cl, q, t⟩
theorem whB_rd {V : Vw} (hv : vok V = true) (hu : Vnn V) : rpE (whB V) = some (V, (whB V).length) := by
  have h := (rpE_el (l := [wholeE V]) (V := V) (fun E hE => by rw [List.mem_singleton.1 hE]; exact whole_may hv hu) (by rw [apE_cons, appl_whole hv]; rfl) (by simp)).1
  rw [el_one] at h
  exact h
/-- A renewal of what reads so, cut anywhere. -/
theorem lone_renew {S S' : St} {T n k ph E1 : Nat} {X : List Int} {V : Vw} (h : Lone S T n X V k) (hd : S.dead = false) (h6 : T + 1 ≤ 60) (hq : tot S + 1334 ≤ 250000) (hq2 : tot S + 1334 ≤ S.q) (e : renewS S (nextS S) (whB V) (leB (nextS S)) = (E1, ph, S')) :
    nextS S = T + 1 ∧ Md S E1 S' ∧ S'.calls ≤ S.calls + 100 ∧ tot S' ≤ tot S + 1334 ∧ S'.q = S.q ∧ (∃ T', T' ≤ T + 1 ∧ Good S' T' (· = V)) ∧
    (ph = 2 → E1 = 0 ∧ Mp S' (T + 1) (T + 1) [wholeE V] (el [wholeE V]).length V) ∧ (ph ≠ 2 → E1 ≠ 0) := by
  have hn := next_eq h.dk hd h.top
  rw [hn] at e
  obtain ⟨-, -, hvk⟩ := rpE_le h.rd
  have hw := (whB_facts (whole_may hvk h.nn)).2
  have hz := leB_len (T + 1)
  have hwr := whB_rd hvk h.nn
  obtain ⟨m, c, t, q, ⟨T1, hT1, D1, l1⟩, r⟩ := renew_ok h.dk h6 hd h.solo h.top h.low (by omega) (by omega) e
  have hlow := h.low
  have old : ∀ K, X.length ≤ K → K ≤ X.length → ∃ U j, rpE (X.take K) = some (U, j) ∧ U = V ∧ Vnn U := fun K h1 h2 => ⟨V, k, by rw [List.take_of_length_le h1]; exact h.rd, rfl, h.nn⟩
  have new : ∀ K, (whB V).length ≤ K → K ≤ (whB V).length → ∃ U j, rpE ((whB V).take K) = some (U, j) ∧ U = V ∧ Vnn U := fun K h1 h2 => ⟨V, _, by rw [List.take_of_length_le h1]; exact hwr, rfl, h.nn⟩
  refine ⟨hn, m, c, by omega, q, ⟨T1, by omega, D1, by omega, l1, fun N hN => ?_⟩, fun h2 => ?_, fun h2 => ?_⟩
  · rcases r with ⟨r1, r2, r3⟩ | ⟨r1, r2, r3, r4⟩ | ⟨r1, r2, r3, r4⟩
    · obtain ⟨x, hx⟩ := r3.all
      exact ⟨n, X, X.length, r3.low, (hx N hN).2, old⟩
    · rcases r4 N hN with a | a
      · exact ⟨n, X, X.length, h.solo.low, a, old⟩
      · exact ⟨T + 1, whB V, _, ⟨by omega, by omega⟩, a, new⟩
    · obtain ⟨x, hx⟩ := r3.all
      exact ⟨T + 1, whB V, _, r3.low, (hx N hN).2, new⟩
  · subst h2
    rcases r with ⟨r1, -⟩ | ⟨r1, -⟩ | ⟨r1, r2, r3, r4⟩
    · cases r1
    · cases r1
    · have hT2 : T1 = T + 1 := by
        rcases hT1 with h | h
        · exfalso
          have := (solo_low D1 r3).2
          omega
        · exact h
      subst hT2
      refine ⟨r2, D1, by omega, l1, ?_, fun E hE => ?_, ?_, by simp⟩
      · have h3 := r3; unfold whB at h3; rw [el_one]; exact h3
      · rw [List.mem_singleton.1 hE]; exact whole_may hvk h.nn
      · rw [apE_cons, appl_whole hvk]; rfl
  · rcases r with ⟨-, r2, -⟩ | ⟨-, r2, -⟩ | ⟨r1, -⟩
    · exact r2
    · exact r2
    · exact absurd r1 h2
/-! The Disk's calls. -/
/-- Open of a Disk that reads as a View, where calls may be cut. -/
theorem kd_open_lone {K : Nat → Prop} {w : World} {R n T k : Nat} {S : St} {X : List Int} {V : Vw} (h : Kd K w R S) (P : Lone S T n X V k) (hd : S.dead = false) (h6 : T + 1 ≤ 60) (hq : tot S + 1334 ≤ 250000) (hq2 : tot S + 1334 ≤ S.q) (hm : S.calls < 68719476736) :
    Calls Tryz.prog 15 #[.pointer (some ⟨R, 0, none⟩)] w fun e w' => Same K w w' ∧ (∃ M x, e = .returned (.tuple #[M, .int .i64 x])) ∧ ∃ S' T' E1, Kd K w' R S' ∧ T' ≤ T + 1 ∧ Good S' T' (· = V) ∧ Md S E1 S' ∧ S'.calls ≤ S.calls + 100 ∧ tot S' ≤ tot S + 1334 ∧ S'.q = S.q ∧
      (E1 = 0 → ∃ M n' c', e = .returned (.tuple #[.pointer (some ⟨M, 0, none⟩), .int .i64 0]) ∧ Km K w' M R n' c' V false S' ∧ w.heap.size ≤ M) := by
  refine (kd_open_go h P.dk P.top hd P.solo P.rd P.nn h6 hq hq2 hm).mono ?_
  rintro e w' ⟨hs, q1, q2⟩
  by_cases hc : k = X.length ∧ (SP (X.take k)).1.length ≤ 30
  · obtain ⟨M, rfl, km, hb, hM⟩ := q1 hc
    exact ⟨hs, ⟨_, _, rfl⟩, S, T, 0, km.kd, by omega, P.good rfl, md_refl S hd, by omega, by omega, rfl, fun _ => ⟨M, _, _, rfl, km, hM⟩⟩
  · obtain ⟨E, ph, S', e1, kd, q3, q4⟩ := q2 hc
    obtain ⟨hn, m, cl, t, q, ⟨T', hT', g⟩, g2, g3⟩ := lone_renew P hd h6 hq hq2 e1
    refine ⟨hs, ?_, S', T', E, kd, hT', g, m, cl, t, q, fun hE => ?_⟩
    · by_cases hE : E = 0
      · obtain ⟨M, rfl, -, -⟩ := q4 hE
        exact ⟨_, _, rfl⟩
      · rw [q3 hE]; exact ⟨_, _, rfl⟩
    · obtain ⟨M, rfl, km, hM⟩ := q4 hE
      have h2 : ph = 2 := Classical.byContradiction fun h => g3 h hE
      subst h2
      exact ⟨M, _, _, rfl, km, hM⟩

end Go.Proofs.YtcahlmneancapabGreatDoor.Clep

/- A Save and a Rewrite where the Disk may die or a call may fail: what is then left. Up to 60 files, 250,000 bytes. -/
namespace Go.Proofs.YtcahlmneancapabGreatDoor.Clep
open Go.RowKit Go.Maps Go.Sort
set_option linter.unusedVariables false
set_option maxRecDepth 10000

theorem Good.eqf {S S' : St} {T : Nat} {G : Vw → Prop} (h : Good S T G) (e : Eqf S S') : Good S' T G :=
  ⟨e.dk h.dk, h.low, by rw [e.names]; exact h.top, fun N hN => by rw [e.outs] at hN; rw [e.files]; exact h.all N hN⟩
theorem Lone.eqf {S S' : St} {T n k : Nat} {X : List Int} {V : Vw} (h : Lone S T n X V k) (e : Eqf S S') : Lone S' T n X V k :=
  ⟨e.dk h.dk, h.low, by rw [e.names]; exact h.top, e.solo h.solo, h.rd, h.nn⟩
theorem Mp.eqf {S S' : St} {T n : Nat} {l : List Ed} {L : Nat} {V : Vw} (h : Mp S T n l L V) (e : Eqf S S') : Mp S' T n l L V :=
  ⟨e.dk h.dk, h.low, by rw [e.names]; exact h.top, e.solo h.solo, h.eg, h.ap, h.pos⟩
theorem eqf_stop (S : St) (a : Nat) (b : Bool) : Eqf S { S with stop := a, dead := b } := ⟨rfl, rfl, rfl, rfl, rfl, rfl⟩
theorem eqf_fail (S : St) (a : Nat) : Eqf S { S with fail := a } := ⟨rfl, rfl, rfl, rfl, rfl, rfl⟩
theorem eqf_calls (S : St) (a : Nat) : Eqf S { S with calls := a } := ⟨rfl, rfl, rfl, rfl, rfl, rfl⟩
theorem Eqf.tot {S S' : St} (e : Eqf S S') : tot S' = tot S := by unfold Clep.tot; rw [e.files]
/-- The last Edit may be torn. -/
theorem mp_good {S : St} {T n : Nat} {l : List Ed} {E : Ed} {V U : Vw} (h : Mp S T n (l ++ [E]) (el l).length U) (hV : apE zV l = some V) (hp : 0 < l.length) (hn : Vnn V) : Good S T (fun W => W = V ∨ W = U) :=
  ⟨h.dk, h.low, h.top, fun N hN => by
    obtain ⟨x, hx⟩ := h.solo.all
    refine ⟨n, _, _, h.solo.low, (hx N hN).2, fun K h1 h2 => ?_⟩
    by_cases hK : K = (el (l ++ [E])).length
    · exact ⟨U, _, by rw [hK, List.take_length]; exact (rpE_el h.eg h.ap h.pos).1, .inr rfl, h.nn⟩
    · have hr := rpE_cut h.eg l.length K (V := V) (by rw [List.take_left']; exact hV; rfl) (by simp) h2 (by unfold een; rw [List.take_left' rfl]; exact h1) (fun _ => by rw [een_all _ _ (by simp)]; omega)
      rw [if_neg (by omega)] at hr
      exact ⟨V, _, hr, .inl rfl, hn⟩⟩
/-- A Save. -/
theorem save_cut {S S' : St} {T n ph E1 : Nat} {l : List Ed} {V U : Vw} {E : Ed} (h : Mp S T n l (el l).length V) (hE : Eg E) (ha : appl V E = some U) (hq : tot S + 1312 ≤ 250000) (hq2 : tot S + 1312 ≤ S.q) (e : saveS S (mnm n) (fr 6 (ebd E)) = (E1, ph, S')) :
    Md S E1 S' ∧ S'.calls ≤ S.calls + 2 ∧ tot S' ≤ tot S + 1312 ∧ S'.q = S.q ∧
    ((ph = 0 ∧ E1 ≠ 0 ∧ Mp S' T n l (el l).length V) ∨ (ph = 1 ∧ E1 ≠ 0 ∧ Good S' T (fun W => W = V ∨ W = U)) ∨ (ph = 2 ∧ E1 = 0 ∧ Mp S' T n (l ++ [E]) (el (l ++ [E])).length U)) := by
  obtain ⟨m, c, t, q, nm, r⟩ := mp_save h hE ha hq hq2 e
  refine ⟨m, c, t, q, ?_⟩
  rcases r with ⟨r1, r2, r3⟩ | ⟨r1, r2, r3⟩ | ⟨r1, r2, r3⟩
  · exact .inl ⟨r1, r2, r3⟩
  · exact .inr (.inl ⟨r1, r2, mp_good r3 h.ap h.pos h.nn⟩)
  · exact .inr (.inr ⟨r1, r2, r3⟩)
/-- A Rewrite. -/
theorem rewrite_cut {S S' : St} {T n ph E1 : Nat} {l : List Ed} {V : Vw} (h : Mp S T n l (el l).length V) (hd : S.dead = false) (h6 : T + 1 ≤ 60) (hq : tot S + 1334 ≤ 250000) (hq2 : tot S + 1334 ≤ S.q) (e : renewS S (nextS S) (whB V) (leB (nextS S)) = (E1, ph, S')) :
    nextS S = T + 1 ∧ Md S E1 S' ∧ S'.calls ≤ S.calls + 100 ∧ tot S' ≤ tot S + 1334 ∧ S'.q = S.q ∧
    ((ph = 0 ∧ E1 ≠ 0 ∧ ∃ T1, T1 ≤ T + 1 ∧ Mp S' T1 n l (el l).length V) ∨ (ph = 1 ∧ E1 ≠ 0 ∧ Good S' (T + 1) (· = V)) ∨ (ph = 2 ∧ E1 = 0 ∧ Mp S' (T + 1) (T + 1) [wholeE V] (el [wholeE V]).length V)) := by
  obtain ⟨hn, m, c, t, q, r⟩ := mp_renew h hd h6 hq hq2 e
  refine ⟨hn, m, c, t, q, ?_⟩
  rcases r with ⟨r1, r2, r3⟩ | ⟨r1, r2, r3, r4, r5⟩ | ⟨r1, r2, r3, r4⟩
  · exact .inl ⟨r1, r2, r3⟩
  · refine .inr (.inl ⟨r1, r2, ⟨r3, by omega, ?_, fun N hN => ?_⟩⟩)
    · exact (at_fl r3 r4).2.1
    · rcases r5 N hN with a | a
      · exact ⟨n, el l, _, h.solo.low, a, fun K h1 h2 => ⟨V, _, by rw [List.take_of_length_le h1]; exact (rpE_el h.eg h.ap h.pos).1, rfl, h.nn⟩⟩
      · exact ⟨T + 1, whB V, _, ⟨by omega, by omega⟩, a, fun K h1 h2 => ⟨V, _, by rw [List.take_of_length_le h1]; exact whB_rd h.vok h.nn, rfl, h.nn⟩⟩
  · exact .inr (.inr ⟨r1, r2, r3⟩)

end Go.Proofs.YtcahlmneancapabGreatDoor.Clep

/- The region of x, ok := F(v, l[i]): what each slot holds once its operation has come up. No conditions. -/
namespace Go.Proofs.YtcahlmneancapabGreatDoor.Clep
open Go.RowKit
set_option linter.unusedVariables false
set_option maxRecDepth 10000

/-- What each slot of the region holds. -/
def PTh (H : Nat) (VC : Value) (ao : Option Addr) (len cap k b off : Nat) (YV : Value) (N : Nat) (X : Vw) (o : Bool) : (Nat → Bool) → Nat → Value → World → Prop := fun L i v W => match i with
  | 0 => v = VC
  | 1 => v = .slice ao len cap
  | 2 => v = .int .i64 (k : Int)
  | 3 => v = .pointer (some ⟨b, off + k * 7, none⟩)
  | 4 => v = YV
  | 5 => ∃ a c, v = .tuple #[.agg #[.int .i64 X.lg, .slice a N c, .int .u64 X.fl, .int .u64 X.ct, .int .u64 X.at9, .int .u64 X.ls], .bool o] ∧ c ≤ 9223372036854775807 ∧ (L 10 = false → OwnF W H (.slice a N c) X.f)
  | 6 => ∃ a c, v = .tuple #[.agg #[.int .i64 X.lg, .slice a N c, .int .u64 X.fl, .int .u64 X.ct, .int .u64 X.at9, .int .u64 X.ls], .bool o] ∧ c ≤ 9223372036854775807 ∧ (L 10 = false → OwnF W H (.slice a N c) X.f)
  | 7 => ∃ a c, v = .agg #[.int .i64 X.lg, .slice a N c, .int .u64 X.fl, .int .u64 X.ct, .int .u64 X.at9, .int .u64 X.ls] ∧ c ≤ 9223372036854775807 ∧ (L 10 = false → OwnF W H (.slice a N c) X.f)
  | 8 => v = .bool o
  | 9 => ∃ p, v = .pointer (some ⟨p, 0, none⟩) ∧ H ≤ p ∧ (L 10 = false → Ek W p #[.int .i64 0, .slice none 0 0, .int .u64 0, .int .u64 0, .int .u64 0, .int .u64 0] 35) ∧ (L 10 = true → ∃ a c, Ek W p #[.int .i64 X.lg, .slice a N c, .int .u64 X.fl, .int .u64 X.ct, .int .u64 X.at9, .int .u64 X.ls] 35 ∧ c ≤ 9223372036854775807 ∧ OwnF W H (.slice a N c) X.f)
  | 11 => v = .bool o
  | _ => True
theorem pth_keep {H : Nat} {VC : Value} {ao : Option Addr} {len cap i b off : Nat} {YV : Value} {N : Nat} {X : Vw} {o : Bool} {L L' : Nat → Bool} {W W' : World} (hL : L' 10 = L 10) (hb : Below W.heap.size W W') : ∀ j u, PTh H VC ao len cap i b off YV N X o L j u W → PTh H VC ao len cap i b off YV N X o L' j u W' := by
  intro j u h
  match j, h with
  | 0, h => exact h
  | 1, h => exact h
  | 2, h => exact h
  | 3, h => exact h
  | 4, h => exact h
  | 5, ⟨a, c, h1, h2, h3⟩ => exact ⟨a, c, h1, h2, fun e => ownF_keep (h3 (hL ▸ e)) hb⟩
  | 6, ⟨a, c, h1, h2, h3⟩ => exact ⟨a, c, h1, h2, fun e => ownF_keep (h3 (hL ▸ e)) hb⟩
  | 7, ⟨a, c, h1, h2, h3⟩ => exact ⟨a, c, h1, h2, fun e => ownF_keep (h3 (hL ▸ e)) hb⟩
  | 8, h => exact h
  | 9, ⟨p, h1, h2, h3, h4⟩ => exact ⟨p, h1, h2, fun e => (h3 (hL ▸ e)).below hb (h3 (hL ▸ e)).lt, fun e => by
      obtain ⟨a, c, h5, h6, h7⟩ := h4 (hL ▸ e)
      exact ⟨a, c, h5.below hb h5.lt, h6, ownF_keep h7 hb⟩⟩
  | 10, h => trivial
  | 11, h => exact h
  | k + 12, h => trivial
theorem pth_store {H : Nat} {VC : Value} {ao : Option Addr} {len cap i b off : Nat} {YV : Value} {N : Nat} {X : Vw} {o : Bool} {L L' : Nat → Bool} {W W' : World} (hL : L' 10 = true) : ∀ j u, (j = 9 → PTh H VC ao len cap i b off YV N X o L' 9 u W') → PTh H VC ao len cap i b off YV N X o L j u W → PTh H VC ao len cap i b off YV N X o L' j u W' := by
  intro j u h9 h
  match j, h with
  | 0, h => exact h
  | 1, h => exact h
  | 2, h => exact h
  | 3, h => exact h
  | 4, h => exact h
  | 5, ⟨a, c, h1, h2, h3⟩ => exact ⟨a, c, h1, h2, fun e => by rw [hL] at e; cases e⟩
  | 6, ⟨a, c, h1, h2, h3⟩ => exact ⟨a, c, h1, h2, fun e => by rw [hL] at e; cases e⟩
  | 7, ⟨a, c, h1, h2, h3⟩ => exact ⟨a, c, h1, h2, fun e => by rw [hL] at e; cases e⟩
  | 8, h => exact h
  | 9, h => exact h9 rfl
  | 10, h => trivial
  | 11, h => exact h
  | k + 12, h => trivial
/-- What the memory holds meanwhile. -/
def PG (wS : World) : (Nat → Bool) → World → Prop := fun L W => Below wS.heap.size wS W ∧ (L 10 = true → ∀ j, j < 10 → j ≠ 8 → L j = true)
theorem pg_upd {wS : World} {L : Nat → Bool} {W : World} (i : Nat) (hi : i ≠ 10) (h : PG wS L W) : PG wS (upd L i) W := ⟨h.1, fun e j hj h8 => upd_more (h.2 (by unfold upd at e; rwa [if_neg (Ne.symm hi)] at e) j hj h8)⟩
theorem pg_below {wS : World} {L : Nat → Bool} {W W' : World} (h : PG wS L W) (hb : Below W.heap.size W W') : PG wS L W' := ⟨h.1.trans (hb.mono h.1.size), h.2⟩
theorem pg10 {wS : World} {L : Nat → Bool} {W : World} (h : PG wS L W) {i : Nat} (hi : i < 10) (h8 : i ≠ 8) (hL : L i = false) : L 10 = false := by
  cases e : L 10 with
  | false => rfl
  | true => rw [h.2 e i hi h8] at hL; cases hL
theorem waits_but {ops : Array Oper} {i n k : Nat} (h : (List.range n).all (fun j => j == k || waits ops i j) = true) : ∀ j, j < n → j ≠ k → waits ops i j = true := fun j hj hk => by
  have := List.all_eq_true.1 h j (List.mem_range.2 hj)
  simpa [hk] using this
theorem upd10 {L : Nat → Bool} {i : Nat} (hi : 10 ≠ i) : upd L i 10 = L 10 := by unfold upd; rw [if_neg hi]

end Go.Proofs.YtcahlmneancapabGreatDoor.Clep
