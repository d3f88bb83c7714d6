/- The fixed example of stage 16's statements: it answers true (a walk over the translated program). No conditions. -/
import Derived.Test.YtcahlmneancapaaGreatDoorFv27
import Derived.Test.YtcahlmneancapaaGreatDoorFv00
import Derived.BigRegion
import Derived.Deep.CutRange
import Derived.Deep.RegionWith
import Derived.Test.YtcahlmneancapaaGreatDoorFv25
import Derived.Test.YtcahlmneancapaaGreatDoorFv09
namespace Go.Proofs.YtcahlmneancapaaGreatDoor.Clep
open Go.RowKit Go.Maps Go.Sort
set_option linter.unusedVariables false
set_option maxRecDepth 10000

theorem one_nn : Vnn oneV := ⟨Int.le_refl 0, Int.le_refl 0, Int.le_refl 0, Int.le_refl 0⟩
theorem one_len : (whB oneV).length ≤ 1312 := (whB_facts (whole_may vok_one one_nn)).2
theorem newOk_one (q : Nat) (h : 1400 ≤ q) : ∃ S', NewOk leB q (whB oneV) S' := new_ok leB q (whB oneV) (by have := one_len; have := leB_len 1; omega) (by have := one_len; have := leB_len 1; omega)
/-- An Edit of a Floor alone. -/
def flE (x : Int) : Ed := ⟨[], [], 0, x, 0, 0, 0⟩
def flV (x : Int) : Vw := ⟨1, [], x, 0, 0, 0⟩
theorem flE_good {x : Int} (h0 : 0 ≤ x) (h1 : x ≤ 281474976710656) : Eg (flE x) := by
  refine ⟨?_, h0, Int.le_refl 0, Int.le_refl 0, Int.le_refl 0⟩
  unfold emay flE edH
  rw [if_pos]
  simp
  omega
theorem flE_appl {x y : Int} (h0 : 1 ≤ x) (h1 : x ≤ 281474976710656) : appl (flV y) (flE x) = some (flV x) := by
  have hp : put0 y x = x := by unfold put0; rw [if_neg (by omega)]
  have hv : vok (flV x) = true := by
    unfold vok vwH flV
    simp [once]
    omega
  have e : after (flV y) (flE x) (flV y).f = flV x := by
    unfold after flV flE
    simp only [hp]
    rfl
  unfold appl
  show (if vok (after (flV y) (flE x) (flV y).f) = true then some (after (flV y) (flE x) (flV y).f) else none) = some (flV x)
  rw [e, if_pos hv]
def s12 : ByteArray := ⟨#[116, 97, 98, 46, 49, 50]⟩
theorem n12 : kTab ++ kPt ++ ⟨(Lib.decDigits 12).toArray⟩ = s12 := by
  rw [digits_two (by decide) (by decide)]
  decide
theorem n3 : kLog ++ kPt ++ ⟨(Lib.decDigits 3).toArray⟩ = ⟨#[108, 111, 103, 46, 51]⟩ := by
  rw [digits_one (by decide)]
  decide
set_option maxHeartbeats 4000000 in
theorem mawake_any (w : World) : Calls Tryz.prog 17 #[] w fun e w' => e = .returned (.bool true) ∧ Below w.heap.size w w' := by
  obtain ⟨S1, N1⟩ := newOk_one 10000 (by decide)
  have P1 := mp_new N1 vok_one one_nn
  have hE := flE_good (x := 7) (by decide) (by decide)
  have hA : appl oneV (flE 7) = some (flV 7) := flE_appl (y := 0) (by decide) (by decide)
  have h1 := one_len
  have h2 := leB_len 1
  have ht := N1.tot
  obtain ⟨E1, ph, S2, e2⟩ : ∃ E1 ph S2, saveS S1 (mnm 1) (fr 6 (ebd (flE 7))) = (E1, ph, S2) := ⟨_, _, _, rfl⟩
  obtain ⟨m2, c2, t2, q2, nm2, r2⟩ := mp_save P1 hE hA (by omega) (by rw [N1.q]; omega) e2
  obtain ⟨z2, k2⟩ := m2.calm N1.calm
  subst z2
  rcases r2 with ⟨-, r, -⟩ | ⟨-, r, -⟩ | ⟨rfl, -, P2⟩
  · exact absurd rfl r
  · exact absurd rfl r
  obtain ⟨rp, sp⟩ := rpE_el P2.eg P2.ap P2.pos
  have hcl := N1.calls
  have hsm2 : tot S2 ≤ 10000 - 1334 ∧ S2.q = 10000 := ⟨by omega, q2.trans N1.q⟩
  have hq1 := N1.q
  have ND := hide (bd_new 10000 w (by decide) 10000 rfl)
  have HE := hide hE
  have HA := hide hA
  have HN1 := hide N1
  have HP1 := hide P1
  have HP2 := hide P2
  have HK2 := hide k2
  have HE2 := hide e2
  have HRP := hide rp
  have HSP := hide sp
  clear N1 P1 hE hA m2 k2 P2 e2 rp sp nm2 q2
  go_enter Tryz.func17, Tryz.ntmps17
  go_wp2_with fail
  refine ND.out.mono ?_
  rintro e w1 ⟨R, rfl, D1⟩
  have NM := hide (bm_new none 0 0 oneV D1 (fs_nil w1) (by decide) vok_one one_nn HN1.out)
  unfold vwV oneV at NM
  clear ND D1
  go_wp2_with fail
  refine NM.out.mono ?_
  rintro e w2 ⟨M, rfl, B2⟩
  have SV := hide (bm_save B2 none none 0 0 0 0 (flE 7) (zs_nil w2) (fs_nil w2) (by decide) (by decide) HE.out.2 vok_one (by decide) (by decide) (by decide) (by omega))
  unfold edV flE at SV
  clear NM B2
  go_wp2_with fail
  refine SV.out.mono ?_
  rintro e w3 ⟨-, q3⟩
  obtain ⟨E1, ph, S3, r1, rfl, B3⟩ := q3 (flV 7) HE.out.1 HA.out
  have r1' := HE2.out
  unfold flE at r1'
  rw [r1'] at r1
  injection r1 with a1 a2
  injection a2 with a2 a3
  subst a1 a2 a3
  have HB3 := hide B3
  have OP := hide (bd_open_go B3.bd HP2.out.dk HP2.out.top HK2.out.2.2 HP2.out.solo HRP.out HP2.out.nn (by decide) (by omega) (by omega) (by omega))
  clear SV q3 r1' B3
  go_wp2_with fail
  refine OP.out.mono ?_
  rintro e w4 ⟨q4, -⟩
  obtain ⟨M', rfl, B4, hb4⟩ := q4 (by first | exact ⟨rfl, by rw [HSP.out]; decide⟩ | exact ⟨trivial, by rw [HSP.out]; decide⟩)
  have HB4 := hide B4
  have HB34 := hide (HB3.out.below hb4)
  have NU := hide (number_of s12 kTab (by decide) 12 (by decide) (by decide) n12 (by decide) (by decide) (by decide) w4)
  unfold s12 kTab at NU
  clear OP q4 B4 hb4 HB3
  go_wp2_with fail
  refine NU.out.mono ?_
  rintro e w5 ⟨rfl, hb5⟩
  have HB5 := hide (HB4.out.below hb5)
  have HB35 := hide (HB34.out.below hb5)
  have VW := hide (bm_view HB5.out (by decide))
  clear NU hb5 HB4 HB34
  unfold vwV flV at VW
  simp only [List.length_nil] at VW
  go_wp2_with fail
  refine VW.out.mono ?_
  rintro e w6 ⟨a, c', rfl, -, -, B6, hb6⟩
  have NM := hide (bm_name (HB35.out.below hb6) (by decide) (by decide))
  have HB6 := hide B6.bel
  rw [show mnm 1 = ⟨#[109, 97, 110, 46, 49]⟩ by decide] at NM
  have hfl := fun W => field_F W 1 7 0 0 0 a 0 c'
  clear VW B6 hb6 HB35 HB5
  go_wp2_with fail
  refine NM.out.mono ?_
  rintro e w7 ⟨rfl, rfl⟩
  have NL := hide (name_small kLog (by decide) 3 (by decide) (by decide) w7)
  rw [n3] at NL
  unfold kLog at NL
  clear NM
  go_wp2_with fail
  refine NL.out.mono ?_
  rintro e w8 ⟨rfl, rfl⟩
  clear NL
  go_wp2
  go_ret
  exact ⟨rfl, HB6.out⟩

end Go.Proofs.YtcahlmneancapaaGreatDoor.Clep

/- What a number and a mask come to. No conditions. -/
namespace Go.Proofs.YtcahlmneancapaaGreatDoor.Clep
open Go.RowKit
set_option linter.unusedVariables false
set_option maxRecDepth 10000

theorem andu (x : Int) (m : Nat) (hm : m < 9223372036854775808) : 0 ≤ bits .and .u64 x m ∧ bits .and .u64 x m ≤ m := by
  have e : bits .and .u64 x m = IntKind.u64.wrap ((BitVec.ofInt 64 x &&& BitVec.ofInt 64 (m : Int)).toNat : Int) := rfl
  have hle : (BitVec.ofInt 64 x &&& BitVec.ofInt 64 (m : Int)).toNat ≤ m := by
    rw [BitVec.toNat_and]
    refine Nat.le_trans Nat.and_le_right ?_
    rw [BitVec.ofInt_natCast, BitVec.toNat_ofNat]
    exact Nat.mod_le _ _
  rw [e]
  generalize (BitVec.ofInt 64 x &&& BitVec.ofInt 64 (m : Int)).toNat = k at *
  simp [IntKind.wrap, IntKind.bits, IntKind.signed]
  omega
theorem andi (x : Int) (m : Nat) (hm : m < 9223372036854775808) : 0 ≤ bits .and .i64 x m ∧ bits .and .i64 x m ≤ m := by
  have e : bits .and .i64 x m = IntKind.i64.wrap ((BitVec.ofInt 64 x &&& BitVec.ofInt 64 (m : Int)).toNat : Int) := rfl
  have hle : (BitVec.ofInt 64 x &&& BitVec.ofInt 64 (m : Int)).toNat ≤ m := by
    rw [BitVec.toNat_and]
    refine Nat.le_trans Nat.and_le_right ?_
    rw [BitVec.ofInt_natCast, BitVec.toNat_ofNat]
    exact Nat.mod_le _ _
  rw [e]
  generalize (BitVec.ofInt 64 x &&& BitVec.ofInt 64 (m : Int)).toNat = k at *
  simp [IntKind.wrap, IntKind.bits, IntKind.signed]
  omega

end Go.Proofs.YtcahlmneancapaaGreatDoor.Clep

/- A Save, a renewal and an Open where nothing fails; how many names there are. -/
namespace Go.Proofs.YtcahlmneancapaaGreatDoor.Clep
open Go.RowKit Go.Maps Go.Sort
set_option linter.unusedVariables false
set_option maxRecDepth 10000

theorem flV_zero : flV 0 = oneV := rfl
theorem flE_appl0 {x y : Int} (h0 : 1 ≤ x) (h1 : x ≤ 1000) : appl (flV y) (flE x) = some (flV x) := flE_appl h0 (by omega)
/-- A Save on a Disk where nothing fails. -/
theorem mp_save_calm {S : St} {T n : Nat} {l : List Ed} {V U : Vw} {E : Ed} (h : Mp S T n l (el l).length V) (hc : Calm S) (hE : Eg E) (ha : appl V E = some U) (hq : tot S + 1312 ≤ 250000) (hq2 : tot S + 1312 ≤ S.q) :
    ∃ S', saveS S (mnm n) (fr 6 (ebd E)) = (0, 2, S') ∧ Calm S' ∧ S'.calls ≤ S.calls + 2 ∧ tot S' ≤ tot S + 1312 ∧ S'.q = S.q ∧ lk S'.names = lk S.names ∧ Mp S' T n (l ++ [E]) (el (l ++ [E])).length U := by
  obtain ⟨E1, ph, S', e⟩ : ∃ E1 ph S', saveS S (mnm n) (fr 6 (ebd E)) = (E1, ph, S') := ⟨_, _, _, rfl⟩
  obtain ⟨m, c, t, q, nm, r⟩ := mp_save h hE ha hq hq2 e
  obtain ⟨z, k⟩ := m.calm hc
  subst z
  rcases r with ⟨-, r, -⟩ | ⟨-, r, -⟩ | ⟨rfl, -, P⟩
  · exact absurd rfl r
  · exact absurd rfl r
  · exact ⟨S', e, k, c, t, q, nm, P⟩
theorem mp_renew_calm {S : St} {T n : Nat} {l : List Ed} {L : Nat} {V : Vw} (h : Mp S T n l L V) (hc : Calm S) (h6 : T + 1 ≤ 60) (hq : tot S + 1334 ≤ 250000) (hq2 : tot S + 1334 ≤ S.q) :
    ∃ S', renewS S (nextS S) (whB V) (leB (nextS S)) = (0, 2, S') ∧ nextS S = T + 1 ∧ Calm S' ∧ S'.calls ≤ S.calls + 100 ∧ tot S' ≤ tot S + 1334 ∧ S'.q = S.q ∧ Mp S' (T + 1) (T + 1) [wholeE V] (el [wholeE V]).length V ∧ (∀ t, lk S'.names t ≠ 0 → t = nCur ∨ t = mnm (T + 1)) := by
  obtain ⟨E1, ph, S', e⟩ : ∃ E1 ph S', renewS S (nextS S) (whB V) (leB (nextS S)) = (E1, ph, S') := ⟨_, _, _, rfl⟩
  obtain ⟨hn, m, c, t, q, r⟩ := mp_renew h hc.2.2 h6 hq hq2 e
  obtain ⟨z, k⟩ := m.calm hc
  subst z
  rcases r with ⟨-, r, -⟩ | ⟨-, r, -⟩ | ⟨rfl, -, P, f⟩
  · exact absurd rfl r
  · exact absurd rfl r
  · exact ⟨S', e, hn, k, c, t, q, P, f hc.1 hc.2.1⟩
/-- Open where nothing fails and all lasts. -/
theorem kd_open_calm {K : Nat → Prop} {w : World} {R n T : Nat} {S : St} {l : List Ed} {V : Vw} (h : Kd K w R S) (P : Mp S T n l (el l).length V) (hc : Calm S) (h6 : T + 1 ≤ 60) (hq : tot S + 1334 ≤ 250000) (hq2 : tot S + 1334 ≤ S.q) (hm : S.calls < 68719476736) :
    Calls Tryz.prog 12 #[.pointer (some ⟨R, 0, none⟩)] w fun e w' => ∃ M S' n' T' l', e = .returned (.tuple #[.pointer (some ⟨M, 0, none⟩), .int .i64 0]) ∧ Km K w' M R n' l'.length V false S' ∧ Same K w w' ∧ w.heap.size ≤ M ∧
      Mp S' T' n' l' (el l').length V ∧ Calm S' ∧ S'.q = S.q ∧ S'.calls ≤ S.calls + 100 ∧ l'.length ≤ 30 ∧
      ((l.length ≤ 30 ∧ S' = S ∧ T' = T ∧ n' = n ∧ l' = l) ∨ (30 < l.length ∧ T' = T + 1 ∧ n' = T + 1 ∧ l'.length = 1 ∧ tot S' ≤ tot S + 1334 ∧ ∀ t, lk S'.names t ≠ 0 → t = nCur ∨ t = mnm (T + 1))) := by
  obtain ⟨rp, sp⟩ := rpE_el P.eg P.ap P.pos
  refine (kd_open_go h P.dk P.top hc.2.2 P.solo rp P.nn h6 hq hq2 hm).mono ?_
  rintro e w' ⟨hs, q1, q2⟩
  by_cases h30 : l.length ≤ 30
  · obtain ⟨M, rfl, k, hb, hM⟩ := q1 ⟨rfl, by omega⟩
    rw [sp] at k
    exact ⟨M, S, n, T, l, rfl, k, hs, hM, P, hc, rfl, by omega, h30, .inl ⟨h30, rfl, rfl, rfl, rfl⟩⟩
  · obtain ⟨E, ph, S', e1, -, -, q3⟩ := q2 (fun h => by omega)
    obtain ⟨S2, e2, hn, hk, hcl, ht, hq', P2, hf⟩ := mp_renew_calm P hc h6 hq hq2
    rw [e2] at e1
    injection e1 with a1 a2
    injection a2 with a2 a3
    subst a1 a2 a3
    obtain ⟨M, rfl, k, hM⟩ := q3 rfl
    rw [if_neg (by decide), if_neg (by decide), hn] at k
    exact ⟨M, S2, T + 1, T + 1, [wholeE V], rfl, k, hs, hM, P2, hk, hq', by omega, by simp, .inr ⟨by omega, rfl, rfl, rfl, ht, hf⟩⟩
theorem keys_in {D : DataW Unit} {N : List ByteArray} (h : HL D) (hs : ∀ s, lk D s ≠ 0 → s ∈ N) : Maps.size D ≤ N.length := by
  have hnd : ((entries D).map (·.1)).Nodup := by
    obtain ⟨es, rfl, hT⟩ := h.tidy
    exact List.pairwise_map.2 hT
  have hk : ∃ l : List ByteArray, (entries D).map (·.1) = l.map key ∧ ∀ s ∈ l, s ∈ N := by
    have : ∀ es : List (Lit × DataW Unit), (∀ p ∈ es, p ∈ entries D) → ∃ l : List ByteArray, es.map (·.1) = l.map key ∧ ∀ s ∈ l, s ∈ N := by
      intro es
      induction es with
      | nil => intro _; exact ⟨[], rfl, by simp⟩
      | cons p r ih =>
        intro hp
        obtain ⟨l, h1, h2⟩ := ih (fun q hq => hp q (List.mem_cons_of_mem _ hq))
        obtain ⟨s, es⟩ := h.keys p (hp p List.mem_cons_self)
        refine ⟨s :: l, by simp [h1, es], fun t ht => ?_⟩
        rcases List.mem_cons.1 ht with rfl | ht
        · exact hs _ (entry_lk h (hp p List.mem_cons_self) es).2
        · exact h2 t ht
    exact this _ (fun _ h => h)
  obtain ⟨l, e, hl⟩ := hk
  have hsz : Maps.size D = l.length := by
    have h1 : (entries D).length = l.length := by have := congrArg List.length e; simpa using this
    obtain ⟨es, rfl, _⟩ := h.tidy
    exact h1
  have hnl : l.Nodup := by
    rw [e] at hnd
    exact (List.pairwise_map.1 hnd).imp (fun {a b} h e => h (by rw [e]))
  have := len_sub l N hnl hl
  omega
theorem few_list {S : St} {T n : Nat} (D : Dk S T) (hd : S.dead = false) (hf : ∀ t, lk S.names t ≠ 0 → t = nCur ∨ t = mnm n) : (listS S).length ≤ 3 := by
  have h := keys_in (N := [nCur, mnm n]) D.hn (fun s hs => by rcases hf s hs with e | e <;> simp [e])
  have e : (namesL S).length = Maps.size S.names := by
    unfold namesL
    rw [List.length_mergeSort]
    obtain ⟨es, he, _⟩ := D.hn.tidy
    rw [he]
    exact List.length_map _
  unfold listS
  rw [hd]
  simp at h
  simp
  omega

end Go.Proofs.YtcahlmneancapaaGreatDoor.Clep

/- What a loss of power may leave, whatever is kept; the calls Crash, Stop, Fail, Dead beside a Manifest. Up to 60 files, 250,000 bytes. -/
namespace Go.Proofs.YtcahlmneancapaaGreatDoor.Clep
open Go.RowKit Go.Maps Go.Sort
set_option linter.unusedVariables false
set_option maxRecDepth 10000

/-- Where all lasts a loss of power takes nothing. -/
theorem mp_crash_calm {S : St} {T n : Nat} {l : List Ed} {V : Vw} (h : Mp S T n l (el l).length V) (ks : List Int) :
    ∃ T', T' ≤ T ∧ Mp (crashS S ks) T' n l (el l).length V ∧ Calm (crashS S ks) ∧ (crashS S ks).calls = S.calls ∧ (crashS S ks).q = S.q ∧ tot (crashS S ks) ≤ tot S := by
  obtain ⟨x, hx⟩ := h.solo.all
  obtain ⟨c, cl, q, t, -, T', h1, h2, D, l1, n', X, L, K, ⟨rfl, rfl, rfl⟩, h3, h4, so⟩ := crash_ok ks (fun n' X L => n' = n ∧ X = el l ∧ L = (el l).length) h.dk (fun N hN => ⟨n, _, _, h.solo.low, (hx N hN).2, rfl, rfl, rfl⟩) rfl
  have hK : K = (el l).length := by omega
  rw [hK, List.take_length] at so
  exact ⟨T', h2, ⟨D, h1, l1, so, h.eg, h.ap, h.pos⟩, c, cl, q, t⟩
/-- Whatever a loss of power leaves opens, as a View of G. -/
structure Good (S : St) (T : Nat) (G : Vw → Prop) : Prop where
  dk : Dk S T
  low : 1 ≤ T
  top : lk S.names (mnm T) ≠ 0
  all : ∀ N, Outs S N → ∃ n X L, (1 ≤ n ∧ n < 100) ∧ Am leB S.files N n X L ∧ ∀ K, L ≤ K → K ≤ X.length → ∃ V k, rpE (X.take K) = some (V, k) ∧ G V ∧ Vnn V
theorem Good.mono {S : St} {T : Nat} {G H : Vw → Prop} (h : Good S T G) (hg : ∀ V, G V → H V) : Good S T H :=
  ⟨h.dk, h.low, h.top, fun N hN => by
    obtain ⟨n, X, L, a, b, c⟩ := h.all N hN
    exact ⟨n, X, L, a, b, fun K h1 h2 => by obtain ⟨V, k, d, e, f⟩ := c K h1 h2; exact ⟨V, k, d, hg V e, f⟩⟩⟩
/-- A Disk that reads as a View, all of which lasts. -/
structure Lone (S : St) (T n : Nat) (X : List Int) (V : Vw) (k : Nat) : Prop where
  dk : Dk S T
  low : 1 ≤ T
  top : lk S.names (mnm T) ≠ 0
  solo : Solo leB S n X X.length
  rd : rpE X = some (V, k)
  nn : Vnn V
theorem Lone.good {S : St} {T n k : Nat} {X : List Int} {V : Vw} (h : Lone S T n X V k) {G : Vw → Prop} (hG : G V) : Good S T G :=
  ⟨h.dk, h.low, h.top, fun N hN => by
    obtain ⟨x, hx⟩ := h.solo.all
    exact ⟨n, X, X.length, h.solo.low, (hx N hN).2, fun K h1 h2 => ⟨V, k, by rw [List.take_of_length_le h1]; exact h.rd, hG, h.nn⟩⟩⟩
theorem Mp.lone {S : St} {T n : Nat} {l : List Ed} {V : Vw} (h : Mp S T n l (el l).length V) : Lone S T n (el l) V (el l).length :=
  ⟨h.dk, h.low, h.top, h.solo, (rpE_el h.eg h.ap h.pos).1, h.nn⟩
theorem good_crash {S : St} {T : Nat} {G : Vw → Prop} (h : Good S T G) (ks : List Int) :
    ∃ T' n X V k, T' ≤ T ∧ Lone (crashS S ks) T' n X V k ∧ G V ∧ Calm (crashS S ks) ∧ (crashS S ks).calls = S.calls ∧ (crashS S ks).q = S.q ∧ tot (crashS S ks) ≤ tot S := by
  obtain ⟨c, cl, q, t, -, T', h1, h2, D, l1, n, X, L, K, hP, h3, h4, so⟩ := crash_ok ks (fun n X L => ∀ K, L ≤ K → K ≤ X.length → ∃ V k, rpE (X.take K) = some (V, k) ∧ G V ∧ Vnn V) h.dk (fun N hN => by obtain ⟨n, X, L, a, b, c⟩ := h.all N hN; exact ⟨n, X, L, a, b, c⟩) rfl
  obtain ⟨V, k, r, g, v⟩ := hP K h3 h4
  have hl : (X.take K).length = K := by rw [List.length_take]; omega
  exact ⟨T', n, X.take K, V, k, h2, ⟨D, h1, l1, by rw [hl]; exact so, r, v⟩, g, c, cl, q, t⟩
theorem whB_rd {V : Vw} (hv : vok V = true) (hu : Vnn V) : rpE (whB V) = some (V, (whB V).length) := by
  have h := (rpE_el (l := [wholeE V]) (V := V) (fun E hE => by rw [List.mem_singleton.1 hE]; exact whole_may hv hu) (by rw [apE_cons, appl_whole hv]; rfl) (by simp)).1
  rw [el_one] at h
  exact h
/-- A renewal of what reads so, cut anywhere. -/
theorem lone_renew {S S' : St} {T n k ph E1 : Nat} {X : List Int} {V : Vw} (h : Lone S T n X V k) (hd : S.dead = false) (h6 : T + 1 ≤ 60) (hq : tot S + 1334 ≤ 250000) (hq2 : tot S + 1334 ≤ S.q) (e : renewS S (nextS S) (whB V) (leB (nextS S)) = (E1, ph, S')) :
    nextS S = T + 1 ∧ Md S E1 S' ∧ S'.calls ≤ S.calls + 100 ∧ tot S' ≤ tot S + 1334 ∧ S'.q = S.q ∧ (∃ T', T' ≤ T + 1 ∧ Good S' T' (· = V)) ∧
    (ph = 2 → E1 = 0 ∧ Mp S' (T + 1) (T + 1) [wholeE V] (el [wholeE V]).length V) ∧ (ph ≠ 2 → E1 ≠ 0) := by
  have hn := next_eq h.dk hd h.top
  rw [hn] at e
  obtain ⟨-, -, hvk⟩ := rpE_le h.rd
  have hw := (whB_facts (whole_may hvk h.nn)).2
  have hz := leB_len (T + 1)
  have hwr := whB_rd hvk h.nn
  obtain ⟨m, c, t, q, ⟨T1, hT1, D1, l1⟩, r⟩ := renew_ok h.dk h6 hd h.solo h.top h.low (by omega) (by omega) e
  have hlow := h.low
  have old : ∀ K, X.length ≤ K → K ≤ X.length → ∃ U j, rpE (X.take K) = some (U, j) ∧ U = V ∧ Vnn U := fun K h1 h2 => ⟨V, k, by rw [List.take_of_length_le h1]; exact h.rd, rfl, h.nn⟩
  have new : ∀ K, (whB V).length ≤ K → K ≤ (whB V).length → ∃ U j, rpE ((whB V).take K) = some (U, j) ∧ U = V ∧ Vnn U := fun K h1 h2 => ⟨V, _, by rw [List.take_of_length_le h1]; exact hwr, rfl, h.nn⟩
  refine ⟨hn, m, c, by omega, q, ⟨T1, by omega, D1, by omega, l1, fun N hN => ?_⟩, fun h2 => ?_, fun h2 => ?_⟩
  · rcases r with ⟨r1, r2, r3⟩ | ⟨r1, r2, r3, r4⟩ | ⟨r1, r2, r3, r4⟩
    · obtain ⟨x, hx⟩ := r3.all
      exact ⟨n, X, X.length, r3.low, (hx N hN).2, old⟩
    · rcases r4 N hN with a | a
      · exact ⟨n, X, X.length, h.solo.low, a, old⟩
      · exact ⟨T + 1, whB V, _, ⟨by omega, by omega⟩, a, new⟩
    · obtain ⟨x, hx⟩ := r3.all
      exact ⟨T + 1, whB V, _, r3.low, (hx N hN).2, new⟩
  · subst h2
    rcases r with ⟨r1, -⟩ | ⟨r1, -⟩ | ⟨r1, r2, r3, r4⟩
    · cases r1
    · cases r1
    · have hT2 : T1 = T + 1 := by
        rcases hT1 with h | h
        · exfalso
          have := (solo_low D1 r3).2
          omega
        · exact h
      subst hT2
      refine ⟨r2, D1, by omega, l1, ?_, fun E hE => ?_, ?_, by simp⟩
      · have h3 := r3; unfold whB at h3; rw [el_one]; exact h3
      · rw [List.mem_singleton.1 hE]; exact whole_may hvk h.nn
      · rw [apE_cons, appl_whole hvk]; rfl
  · rcases r with ⟨-, r2, -⟩ | ⟨-, r2, -⟩ | ⟨r1, -⟩
    · exact r2
    · exact r2
    · exact absurd r1 h2
/-! The Disk's calls. -/
theorem kd_crash {K : Nat → Prop} {w : World} {R : Nat} {S : St} (ao : Option Addr) (len cap : Nat) (ks : List Int) (h : Kd K w R S) (hm : S.calls ≤ 1099511627776) (hk : NumV K w (.slice ao len cap) ks) :
    Calls Tryz.prog 29 #[.pointer (some ⟨R, 0, none⟩), .slice ao len cap] w fun e w' => e = .returned (.tuple #[]) ∧ Kd K w' R (crashS S ks) ∧ Same K w w' := by
  obtain ⟨F, m, hF⟩ := h
  refine (crash_h ao len cap ks rfl m hm ?_).mono ?_
  · obtain ⟨ao', cap', e, h1, h2, h3, h4⟩ := hk
    refine ⟨ao', cap', e, h1, h2, h3, fun h0 => ?_⟩
    obtain ⟨b, off, e1, q, hc⟩ := h4 h0
    exact ⟨b, off, e1, hF b q, hc⟩
  · rintro e w' ⟨rfl, h2, h3⟩
    exact ⟨rfl, ⟨F, h2, hF⟩, h3.mono hF⟩
theorem kd_stop {K : Nat → Prop} {w : World} {R : Nat} {S : St} (n : Nat) (hn : n ≤ 1099511627776) (hd : S.dead = false) (h : Kd K w R S) :
    Calls Tryz.prog 32 #[.pointer (some ⟨R, 0, none⟩), .int .i64 n] w fun e w' => e = .returned (.tuple #[]) ∧ Kd K w' R { S with stop := n, dead := decide (n = 0) } ∧ Same K w w' := by
  obtain ⟨F, m, hF⟩ := h
  refine (stop_h n hn hd m).mono ?_
  rintro e w' ⟨rfl, h2, h3⟩
  exact ⟨rfl, ⟨F, h2, hF⟩, h3.mono hF⟩
theorem km_stop {K : Nat → Prop} {w : World} {M R n c : Nat} {V : Vw} {br : Bool} {S : St} (k : Nat) (hk : k ≤ 1099511627776) (hd : S.dead = false) (h : Km K w M R n c V br S) :
    Calls Tryz.prog 32 #[.pointer (some ⟨R, 0, none⟩), .int .i64 k] w fun e w' => e = .returned (.tuple #[]) ∧ Km K w' M R n c V br { S with stop := k, dead := decide (k = 0) } ∧ Same K w w' := by
  have hlow := h.low
  obtain ⟨F, m, hF⟩ := h.ma
  refine (stop_h k hk hd m.held).mono ?_
  rintro e w' ⟨rfl, h2, h3⟩
  exact ⟨rfl, ⟨⟨F, m.disk h2 h3, hF⟩, hlow⟩, h3.mono hF⟩
theorem km_fail {K : Nat → Prop} {w : World} {M R n c : Nat} {V : Vw} {br : Bool} {S : St} (k : Nat) (hk : k ≤ 1099511627776) (h : Km K w M R n c V br S) :
    Calls Tryz.prog 34 #[.pointer (some ⟨R, 0, none⟩), .int .i64 k] w fun e w' => e = .returned (.tuple #[]) ∧ Km K w' M R n c V br { S with fail := k } ∧ Same K w w' := by
  have hlow := h.low
  obtain ⟨F, m, hF⟩ := h.ma
  refine (fail_h k hk m.held).mono ?_
  rintro e w' ⟨rfl, h2, h3⟩
  exact ⟨rfl, ⟨⟨F, m.disk h2 h3, hF⟩, hlow⟩, h3.mono hF⟩
theorem kd_dead {K : Nat → Prop} {w : World} {R : Nat} {S : St} (h : Kd K w R S) :
    Calls Tryz.prog 33 #[.pointer (some ⟨R, 0, none⟩)] w fun e w' => e = .returned (.bool S.dead) ∧ w' = w := by
  obtain ⟨F, m, hF⟩ := h
  exact dead_h m
/-- Open of a Disk that reads as a View, where calls may be cut. -/
theorem kd_open_lone {K : Nat → Prop} {w : World} {R n T k : Nat} {S : St} {X : List Int} {V : Vw} (h : Kd K w R S) (P : Lone S T n X V k) (hd : S.dead = false) (h6 : T + 1 ≤ 60) (hq : tot S + 1334 ≤ 250000) (hq2 : tot S + 1334 ≤ S.q) (hm : S.calls < 68719476736) :
    Calls Tryz.prog 12 #[.pointer (some ⟨R, 0, none⟩)] w fun e w' => Same K w w' ∧ (∃ M x, e = .returned (.tuple #[M, .int .i64 x])) ∧ ∃ S' T' E1, Kd K w' R S' ∧ T' ≤ T + 1 ∧ Good S' T' (· = V) ∧ Md S E1 S' ∧ S'.calls ≤ S.calls + 100 ∧ tot S' ≤ tot S + 1334 ∧ S'.q = S.q ∧
      (E1 = 0 → ∃ M n' c', e = .returned (.tuple #[.pointer (some ⟨M, 0, none⟩), .int .i64 0]) ∧ Km K w' M R n' c' V false S' ∧ w.heap.size ≤ M) := by
  refine (kd_open_go h P.dk P.top hd P.solo P.rd P.nn h6 hq hq2 hm).mono ?_
  rintro e w' ⟨hs, q1, q2⟩
  by_cases hc : k = X.length ∧ (SP (X.take k)).1.length ≤ 30
  · obtain ⟨M, rfl, km, hb, hM⟩ := q1 hc
    exact ⟨hs, ⟨_, _, rfl⟩, S, T, 0, km.kd, by omega, P.good rfl, md_refl S hd, by omega, by omega, rfl, fun _ => ⟨M, _, _, rfl, km, hM⟩⟩
  · obtain ⟨E, ph, S', e1, kd, q3, q4⟩ := q2 hc
    obtain ⟨hn, m, cl, t, q, ⟨T', hT', g⟩, g2, g3⟩ := lone_renew P hd h6 hq hq2 e1
    refine ⟨hs, ?_, S', T', E, kd, hT', g, m, cl, t, q, fun hE => ?_⟩
    · by_cases hE : E = 0
      · obtain ⟨M, rfl, -, -⟩ := q4 hE
        exact ⟨_, _, rfl⟩
      · rw [q3 hE]; exact ⟨_, _, rfl⟩
    · obtain ⟨M, rfl, km, hM⟩ := q4 hE
      have h2 : ph = 2 := Classical.byContradiction fun h => g3 h hE
      subst h2
      exact ⟨M, _, _, rfl, km, hM⟩

end Go.Proofs.YtcahlmneancapaaGreatDoor.Clep

/- A Save and a Rewrite where the Disk may die or a call may fail: what is then left. Up to 60 files, 250,000 bytes. -/
namespace Go.Proofs.YtcahlmneancapaaGreatDoor.Clep
open Go.RowKit Go.Maps Go.Sort
set_option linter.unusedVariables false
set_option maxRecDepth 10000

theorem Good.eqf {S S' : St} {T : Nat} {G : Vw → Prop} (h : Good S T G) (e : Eqf S S') : Good S' T G :=
  ⟨e.dk h.dk, h.low, by rw [e.names]; exact h.top, fun N hN => by rw [e.outs] at hN; rw [e.files]; exact h.all N hN⟩
theorem Lone.eqf {S S' : St} {T n k : Nat} {X : List Int} {V : Vw} (h : Lone S T n X V k) (e : Eqf S S') : Lone S' T n X V k :=
  ⟨e.dk h.dk, h.low, by rw [e.names]; exact h.top, e.solo h.solo, h.rd, h.nn⟩
theorem Mp.eqf {S S' : St} {T n : Nat} {l : List Ed} {L : Nat} {V : Vw} (h : Mp S T n l L V) (e : Eqf S S') : Mp S' T n l L V :=
  ⟨e.dk h.dk, h.low, by rw [e.names]; exact h.top, e.solo h.solo, h.eg, h.ap, h.pos⟩
theorem eqf_stop (S : St) (a : Nat) (b : Bool) : Eqf S { S with stop := a, dead := b } := ⟨rfl, rfl, rfl, rfl, rfl, rfl⟩
theorem eqf_fail (S : St) (a : Nat) : Eqf S { S with fail := a } := ⟨rfl, rfl, rfl, rfl, rfl, rfl⟩
theorem eqf_calls (S : St) (a : Nat) : Eqf S { S with calls := a } := ⟨rfl, rfl, rfl, rfl, rfl, rfl⟩
theorem Eqf.tot {S S' : St} (e : Eqf S S') : tot S' = tot S := by unfold Clep.tot; rw [e.files]
/-- The last Edit may be torn. -/
theorem mp_good {S : St} {T n : Nat} {l : List Ed} {E : Ed} {V U : Vw} (h : Mp S T n (l ++ [E]) (el l).length U) (hV : apE zV l = some V) (hp : 0 < l.length) (hn : Vnn V) : Good S T (fun W => W = V ∨ W = U) :=
  ⟨h.dk, h.low, h.top, fun N hN => by
    obtain ⟨x, hx⟩ := h.solo.all
    refine ⟨n, _, _, h.solo.low, (hx N hN).2, fun K h1 h2 => ?_⟩
    by_cases hK : K = (el (l ++ [E])).length
    · exact ⟨U, _, by rw [hK, List.take_length]; exact (rpE_el h.eg h.ap h.pos).1, .inr rfl, h.nn⟩
    · have hr := rpE_cut h.eg l.length K (V := V) (by rw [List.take_left']; exact hV; rfl) (by simp) h2 (by unfold een; rw [List.take_left' rfl]; exact h1) (fun _ => by rw [een_all _ _ (by simp)]; omega)
      rw [if_neg (by omega)] at hr
      exact ⟨V, _, hr, .inl rfl, hn⟩⟩
/-- A Save. -/
theorem save_cut {S S' : St} {T n ph E1 : Nat} {l : List Ed} {V U : Vw} {E : Ed} (h : Mp S T n l (el l).length V) (hE : Eg E) (ha : appl V E = some U) (hq : tot S + 1312 ≤ 250000) (hq2 : tot S + 1312 ≤ S.q) (e : saveS S (mnm n) (fr 6 (ebd E)) = (E1, ph, S')) :
    Md S E1 S' ∧ S'.calls ≤ S.calls + 2 ∧ tot S' ≤ tot S + 1312 ∧ S'.q = S.q ∧
    ((ph = 0 ∧ E1 ≠ 0 ∧ Mp S' T n l (el l).length V) ∨ (ph = 1 ∧ E1 ≠ 0 ∧ Good S' T (fun W => W = V ∨ W = U)) ∨ (ph = 2 ∧ E1 = 0 ∧ Mp S' T n (l ++ [E]) (el (l ++ [E])).length U)) := by
  obtain ⟨m, c, t, q, nm, r⟩ := mp_save h hE ha hq hq2 e
  refine ⟨m, c, t, q, ?_⟩
  rcases r with ⟨r1, r2, r3⟩ | ⟨r1, r2, r3⟩ | ⟨r1, r2, r3⟩
  · exact .inl ⟨r1, r2, r3⟩
  · exact .inr (.inl ⟨r1, r2, mp_good r3 h.ap h.pos h.nn⟩)
  · exact .inr (.inr ⟨r1, r2, r3⟩)
/-- A Rewrite. -/
theorem rewrite_cut {S S' : St} {T n ph E1 : Nat} {l : List Ed} {V : Vw} (h : Mp S T n l (el l).length V) (hd : S.dead = false) (h6 : T + 1 ≤ 60) (hq : tot S + 1334 ≤ 250000) (hq2 : tot S + 1334 ≤ S.q) (e : renewS S (nextS S) (whB V) (leB (nextS S)) = (E1, ph, S')) :
    nextS S = T + 1 ∧ Md S E1 S' ∧ S'.calls ≤ S.calls + 100 ∧ tot S' ≤ tot S + 1334 ∧ S'.q = S.q ∧
    ((ph = 0 ∧ E1 ≠ 0 ∧ ∃ T1, T1 ≤ T + 1 ∧ Mp S' T1 n l (el l).length V) ∨ (ph = 1 ∧ E1 ≠ 0 ∧ Good S' (T + 1) (· = V)) ∨ (ph = 2 ∧ E1 = 0 ∧ Mp S' (T + 1) (T + 1) [wholeE V] (el [wholeE V]).length V)) := by
  obtain ⟨hn, m, c, t, q, r⟩ := mp_renew h hd h6 hq hq2 e
  refine ⟨hn, m, c, t, q, ?_⟩
  rcases r with ⟨r1, r2, r3⟩ | ⟨r1, r2, r3, r4, r5⟩ | ⟨r1, r2, r3, r4⟩
  · exact .inl ⟨r1, r2, r3⟩
  · refine .inr (.inl ⟨r1, r2, ⟨r3, by omega, ?_, fun N hN => ?_⟩⟩)
    · exact (at_fl r3 r4).2.1
    · rcases r5 N hN with a | a
      · exact ⟨n, el l, _, h.solo.low, a, fun K h1 h2 => ⟨V, _, by rw [List.take_of_length_le h1]; exact (rpE_el h.eg h.ap h.pos).1, rfl, h.nn⟩⟩
      · exact ⟨T + 1, whB V, _, ⟨by omega, by omega⟩, a, fun K h1 h2 => ⟨V, _, by rw [List.take_of_length_le h1]; exact whB_rd h.vok h.nn, rfl, h.nn⟩⟩
  · exact .inr (.inr ⟨r1, r2, r3⟩)

end Go.Proofs.YtcahlmneancapaaGreatDoor.Clep
