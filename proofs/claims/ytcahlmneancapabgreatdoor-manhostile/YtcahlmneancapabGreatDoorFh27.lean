/- The fixed example of stage 16's statements: it answers true (a walk over the translated program). No conditions. -/
import Derived.Test.YtcahlmneancapabGreatDoorFh26
import Derived.Test.YtcahlmneancapabGreatDoorFh00
import Derived.BigRegion
import Derived.Deep.CutRange
import Derived.Deep.RegionWith
import Derived.Test.YtcahlmneancapabGreatDoorFh16
import Derived.Test.YtcahlmneancapabGreatDoorFh17
namespace Go.Proofs.YtcahlmneancapabGreatDoor.Clep
open Go.RowKit Go.Maps Go.Sort
set_option linter.unusedVariables false
set_option maxRecDepth 10000

theorem one_nn : Vnn oneV := ⟨Int.le_refl 0, Int.le_refl 0, Int.le_refl 0, Int.le_refl 0⟩
theorem one_len : (whB oneV).length ≤ 1312 := (whB_facts (whole_may vok_one one_nn)).2
theorem newOk_one (q : Nat) (h : 1400 ≤ q) : ∃ S', NewOk leB q (whB oneV) S' := new_ok leB q (whB oneV) (by have := one_len; have := leB_len 1; omega) (by have := one_len; have := leB_len 1; omega)
/-- An Edit of a Floor alone. -/
def flE (x : Int) : Ed := ⟨[], [], 0, x, 0, 0, 0⟩
def flV (x : Int) : Vw := ⟨1, [], x, 0, 0, 0⟩
theorem flE_good {x : Int} (h0 : 0 ≤ x) (h1 : x ≤ 281474976710656) : Eg (flE x) := by
  refine ⟨?_, h0, Int.le_refl 0, Int.le_refl 0, Int.le_refl 0⟩
  unfold emay flE edH
  rw [if_pos]
  simp
  omega
theorem flE_appl {x y : Int} (h0 : 1 ≤ x) (h1 : x ≤ 281474976710656) : appl (flV y) (flE x) = some (flV x) := by
  have hp : put0 y x = x := by unfold put0; rw [if_neg (by omega)]
  have hv : vok (flV x) = true := by
    unfold vok vwH flV
    simp [once]
    omega
  have e : after (flV y) (flE x) (flV y).f = flV x := by
    unfold after flV flE
    simp only [hp]
    rfl
  unfold appl
  show (if vok (after (flV y) (flE x) (flV y).f) = true then some (after (flV y) (flE x) (flV y).f) else none) = some (flV x)
  rw [e, if_pos hv]
def s12 : ByteArray := ⟨#[116, 97, 98, 46, 49, 50]⟩
theorem n12 : kTab ++ kPt ++ ⟨(Lib.decDigits 12).toArray⟩ = s12 := by
  rw [digits_two (by decide) (by decide)]
  decide
theorem n3 : kLog ++ kPt ++ ⟨(Lib.decDigits 3).toArray⟩ = ⟨#[108, 111, 103, 46, 51]⟩ := by
  rw [digits_one (by decide)]
  decide
set_option maxHeartbeats 4000000 in
theorem mawake_any (w : World) : Calls Tryz.prog 8 #[] w fun e w' => e = .returned (.bool true) ∧ Below w.heap.size w w' := by
  obtain ⟨S1, N1⟩ := newOk_one 10000 (by decide)
  have P1 := mp_new N1 vok_one one_nn
  have hE := flE_good (x := 7) (by decide) (by decide)
  have hA : appl oneV (flE 7) = some (flV 7) := flE_appl (y := 0) (by decide) (by decide)
  have h1 := one_len
  have h2 := leB_len 1
  have ht := N1.tot
  obtain ⟨E1, ph, S2, e2⟩ : ∃ E1 ph S2, saveS S1 (mnm 1) (fr 6 (ebd (flE 7))) = (E1, ph, S2) := ⟨_, _, _, rfl⟩
  obtain ⟨m2, c2, t2, q2, nm2, r2⟩ := mp_save P1 hE hA (by omega) (by rw [N1.q]; omega) e2
  obtain ⟨z2, k2⟩ := m2.calm N1.calm
  subst z2
  rcases r2 with ⟨-, r, -⟩ | ⟨-, r, -⟩ | ⟨rfl, -, P2⟩
  · exact absurd rfl r
  · exact absurd rfl r
  obtain ⟨rp, sp⟩ := rpE_el P2.eg P2.ap P2.pos
  have hcl := N1.calls
  have hsm2 : tot S2 ≤ 10000 - 1334 ∧ S2.q = 10000 := ⟨by omega, q2.trans N1.q⟩
  have hq1 := N1.q
  have ND := hide (bd_new 10000 w (by decide) 10000 rfl)
  have HE := hide hE
  have HA := hide hA
  have HN1 := hide N1
  have HP1 := hide P1
  have HP2 := hide P2
  have HK2 := hide k2
  have HE2 := hide e2
  have HRP := hide rp
  have HSP := hide sp
  clear N1 P1 hE hA m2 k2 P2 e2 rp sp nm2 q2
  go_enter Tryz.func8, Tryz.ntmps8
  go_wp2_with fail
  refine ND.out.mono ?_
  rintro e w1 ⟨R, rfl, D1⟩
  have NM := hide (bm_new none 0 0 oneV D1 (fs_nil w1) (by decide) vok_one one_nn HN1.out)
  unfold vwV oneV at NM
  clear ND D1
  go_wp2_with fail
  refine NM.out.mono ?_
  rintro e w2 ⟨M, rfl, B2⟩
  have SV := hide (bm_save B2 none none 0 0 0 0 (flE 7) (zs_nil w2) (fs_nil w2) (by decide) (by decide) HE.out.2 vok_one (by decide) (by decide) (by decide) (by omega))
  unfold edV flE at SV
  clear NM B2
  go_wp2_with fail
  refine SV.out.mono ?_
  rintro e w3 ⟨-, q3⟩
  obtain ⟨E1, ph, S3, r1, rfl, B3⟩ := q3 (flV 7) HE.out.1 HA.out
  have r1' := HE2.out
  unfold flE at r1'
  rw [r1'] at r1
  injection r1 with a1 a2
  injection a2 with a2 a3
  subst a1 a2 a3
  have HB3 := hide B3
  have OP := hide (bd_open_go B3.bd HP2.out.dk HP2.out.top HK2.out.2.2 HP2.out.solo HRP.out HP2.out.nn (by decide) (by omega) (by omega) (by omega))
  clear SV q3 r1' B3
  go_wp2_with fail
  refine OP.out.mono ?_
  rintro e w4 ⟨q4, -⟩
  obtain ⟨M', rfl, B4, hb4⟩ := q4 (by first | exact ⟨rfl, by rw [HSP.out]; decide⟩ | exact ⟨trivial, by rw [HSP.out]; decide⟩)
  have HB4 := hide B4
  have HB34 := hide (HB3.out.below hb4)
  have NU := hide (number_of s12 kTab (by decide) 12 (by decide) (by decide) n12 (by decide) (by decide) (by decide) w4)
  unfold s12 kTab at NU
  clear OP q4 B4 hb4 HB3
  go_wp2_with fail
  refine NU.out.mono ?_
  rintro e w5 ⟨rfl, hb5⟩
  have HB5 := hide (HB4.out.below hb5)
  have HB35 := hide (HB34.out.below hb5)
  have VW := hide (bm_view HB5.out (by decide))
  clear NU hb5 HB4 HB34
  unfold vwV flV at VW
  simp only [List.length_nil] at VW
  go_wp2_with fail
  refine VW.out.mono ?_
  rintro e w6 ⟨a, c', rfl, -, -, B6, hb6⟩
  have NM := hide (bm_name (HB35.out.below hb6) (by decide) (by decide))
  have HB6 := hide B6.bel
  rw [show mnm 1 = ⟨#[109, 97, 110, 46, 49]⟩ by decide] at NM
  have hfl := fun W => field_F W 1 7 0 0 0 a 0 c'
  clear VW B6 hb6 HB35 HB5
  go_wp2_with fail
  refine NM.out.mono ?_
  rintro e w7 ⟨rfl, rfl⟩
  have NL := hide (name_small kLog (by decide) 3 (by decide) (by decide) w7)
  rw [n3] at NL
  unfold kLog at NL
  clear NM
  go_wp2_with fail
  refine NL.out.mono ?_
  rintro e w8 ⟨rfl, rfl⟩
  clear NL
  go_wp2
  go_ret
  exact ⟨rfl, HB6.out⟩

end Go.Proofs.YtcahlmneancapabGreatDoor.Clep

/- What a number and a mask come to. No conditions. -/
namespace Go.Proofs.YtcahlmneancapabGreatDoor.Clep
open Go.RowKit
set_option linter.unusedVariables false
set_option maxRecDepth 10000

theorem andu (x : Int) (m : Nat) (hm : m < 9223372036854775808) : 0 ≤ bits .and .u64 x m ∧ bits .and .u64 x m ≤ m := by
  have e : bits .and .u64 x m = IntKind.u64.wrap ((BitVec.ofInt 64 x &&& BitVec.ofInt 64 (m : Int)).toNat : Int) := rfl
  have hle : (BitVec.ofInt 64 x &&& BitVec.ofInt 64 (m : Int)).toNat ≤ m := by
    rw [BitVec.toNat_and]
    refine Nat.le_trans Nat.and_le_right ?_
    rw [BitVec.ofInt_natCast, BitVec.toNat_ofNat]
    exact Nat.mod_le _ _
  rw [e]
  generalize (BitVec.ofInt 64 x &&& BitVec.ofInt 64 (m : Int)).toNat = k at *
  simp [IntKind.wrap, IntKind.bits, IntKind.signed]
  omega
theorem andi (x : Int) (m : Nat) (hm : m < 9223372036854775808) : 0 ≤ bits .and .i64 x m ∧ bits .and .i64 x m ≤ m := by
  have e : bits .and .i64 x m = IntKind.i64.wrap ((BitVec.ofInt 64 x &&& BitVec.ofInt 64 (m : Int)).toNat : Int) := rfl
  have hle : (BitVec.ofInt 64 x &&& BitVec.ofInt 64 (m : Int)).toNat ≤ m := by
    rw [BitVec.toNat_and]
    refine Nat.le_trans Nat.and_le_right ?_
    rw [BitVec.ofInt_natCast, BitVec.toNat_ofNat]
    exact Nat.mod_le _ _
  rw [e]
  generalize (BitVec.ofInt 64 x &&& BitVec.ofInt 64 (m : Int)).toNat = k at *
  simp [IntKind.wrap, IntKind.bits, IntKind.signed]
  omega

end Go.Proofs.YtcahlmneancapabGreatDoor.Clep

/- A Save, a renewal and an Open where nothing fails; how many names there are. -/
namespace Go.Proofs.YtcahlmneancapabGreatDoor.Clep
open Go.RowKit Go.Maps Go.Sort
set_option linter.unusedVariables false
set_option maxRecDepth 10000

theorem flV_zero : flV 0 = oneV := rfl
theorem flE_appl0 {x y : Int} (h0 : 1 ≤ x) (h1 : x ≤ 1000) : appl (flV y) (flE x) = some (flV x) := flE_appl h0 (by omega)
/-- A Save on a Disk where nothing fails. -/
theorem mp_save_calm {S : St} {T n : Nat} {l : List Ed} {V U : Vw} {E : Ed} (h : Mp S T n l (el l).length V) (hc : Calm S) (hE : Eg E) (ha : appl V E = some U) (hq : tot S + 1312 ≤ 250000) (hq2 : tot S + 1312 ≤ S.q) :
    ∃ S', saveS S (mnm n) (fr 6 (ebd E)) = (0, 2, S') ∧ Calm S' ∧ S'.calls ≤ S.calls + 2 ∧ tot S' ≤ tot S + 1312 ∧ S'.q = S.q ∧ lk S'.names = lk S.names ∧ Mp S' T n (l ++ [E]) (el (l ++ [E])).length U := by
  obtain ⟨E1, ph, S', e⟩ : ∃ E1 ph S', saveS S (mnm n) (fr 6 (ebd E)) = (E1, ph, S') := ⟨_, _, _, rfl⟩
  obtain ⟨m, c, t, q, nm, r⟩ := mp_save h hE ha hq hq2 e
  obtain ⟨z, k⟩ := m.calm hc
  subst z
  rcases r with ⟨-, r, -⟩ | ⟨-, r, -⟩ | ⟨rfl, -, P⟩
  · exact absurd rfl r
  · exact absurd rfl r
  · exact ⟨S', e, k, c, t, q, nm, P⟩
theorem mp_renew_calm {S : St} {T n : Nat} {l : List Ed} {L : Nat} {V : Vw} (h : Mp S T n l L V) (hc : Calm S) (h6 : T + 1 ≤ 60) (hq : tot S + 1334 ≤ 250000) (hq2 : tot S + 1334 ≤ S.q) :
    ∃ S', renewS S (nextS S) (whB V) (leB (nextS S)) = (0, 2, S') ∧ nextS S = T + 1 ∧ Calm S' ∧ S'.calls ≤ S.calls + 100 ∧ tot S' ≤ tot S + 1334 ∧ S'.q = S.q ∧ Mp S' (T + 1) (T + 1) [wholeE V] (el [wholeE V]).length V ∧ (∀ t, lk S'.names t ≠ 0 → t = nCur ∨ t = mnm (T + 1)) := by
  obtain ⟨E1, ph, S', e⟩ : ∃ E1 ph S', renewS S (nextS S) (whB V) (leB (nextS S)) = (E1, ph, S') := ⟨_, _, _, rfl⟩
  obtain ⟨hn, m, c, t, q, r⟩ := mp_renew h hc.2.2 h6 hq hq2 e
  obtain ⟨z, k⟩ := m.calm hc
  subst z
  rcases r with ⟨-, r, -⟩ | ⟨-, r, -⟩ | ⟨rfl, -, P, f⟩
  · exact absurd rfl r
  · exact absurd rfl r
  · exact ⟨S', e, hn, k, c, t, q, P, f hc.1 hc.2.1⟩
/-- Open where nothing fails and all lasts. -/
theorem kd_open_calm {K : Nat → Prop} {w : World} {R n T : Nat} {S : St} {l : List Ed} {V : Vw} (h : Kd K w R S) (P : Mp S T n l (el l).length V) (hc : Calm S) (h6 : T + 1 ≤ 60) (hq : tot S + 1334 ≤ 250000) (hq2 : tot S + 1334 ≤ S.q) (hm : S.calls < 68719476736) :
    Calls Tryz.prog 15 #[.pointer (some ⟨R, 0, none⟩)] w fun e w' => ∃ M S' n' T' l', e = .returned (.tuple #[.pointer (some ⟨M, 0, none⟩), .int .i64 0]) ∧ Km K w' M R n' l'.length V false S' ∧ Same K w w' ∧ w.heap.size ≤ M ∧
      Mp S' T' n' l' (el l').length V ∧ Calm S' ∧ S'.q = S.q ∧ S'.calls ≤ S.calls + 100 ∧ l'.length ≤ 30 ∧
      ((l.length ≤ 30 ∧ S' = S ∧ T' = T ∧ n' = n ∧ l' = l) ∨ (30 < l.length ∧ T' = T + 1 ∧ n' = T + 1 ∧ l'.length = 1 ∧ tot S' ≤ tot S + 1334 ∧ ∀ t, lk S'.names t ≠ 0 → t = nCur ∨ t = mnm (T + 1))) := by
  obtain ⟨rp, sp⟩ := rpE_el P.eg P.ap P.pos
  refine (kd_open_go h P.dk P.top hc.2.2 P.solo rp P.nn h6 hq hq2 hm).mono ?_
  rintro e w' ⟨hs, q1, q2⟩
  by_cases h30 : l.length ≤ 30
  · obtain ⟨M, rfl, k, hb, hM⟩ := q1 ⟨rfl, by omega⟩
    rw [sp] at k
    exact ⟨M, S, n, T, l, rfl, k, hs, hM, P, hc, rfl, by omega, h30, .inl ⟨h30, rfl, rfl, rfl, rfl⟩⟩
  · obtain ⟨E, ph, S', e1, -, -, q3⟩ := q2 (fun h => by omega)
    obtain ⟨S2, e2, hn, hk, hcl, ht, hq', P2, hf⟩ := mp_renew_calm P hc h6 hq hq2
    rw [e2] at e1
    injection e1 with a1 a2
    injection a2 with a2 a3
    subst a1 a2 a3
    obtain ⟨M, rfl, k, hM⟩ := q3 rfl
    rw [if_neg (by decide), if_neg (by decide), hn] at k
    exact ⟨M, S2, T + 1, T + 1, [wholeE V], rfl, k, hs, hM, P2, hk, hq', by omega, by simp, .inr ⟨by omega, rfl, rfl, rfl, ht, hf⟩⟩
theorem keys_in {D : DataW Unit} {N : List ByteArray} (h : HL D) (hs : ∀ s, lk D s ≠ 0 → s ∈ N) : Maps.size D ≤ N.length := by
  have hnd : ((entries D).map (·.1)).Nodup := by
    obtain ⟨es, rfl, hT⟩ := h.tidy
    exact List.pairwise_map.2 hT
  have hk : ∃ l : List ByteArray, (entries D).map (·.1) = l.map key ∧ ∀ s ∈ l, s ∈ N := by
    have : ∀ es : List (Lit × DataW Unit), (∀ p ∈ es, p ∈ entries D) → ∃ l : List ByteArray, es.map (·.1) = l.map key ∧ ∀ s ∈ l, s ∈ N := by
      intro es
      induction es with
      | nil => intro _; exact ⟨[], rfl, by simp⟩
      | cons p r ih =>
        intro hp
        obtain ⟨l, h1, h2⟩ := ih (fun q hq => hp q (List.mem_cons_of_mem _ hq))
        obtain ⟨s, es⟩ := h.keys p (hp p List.mem_cons_self)
        refine ⟨s :: l, by simp [h1, es], fun t ht => ?_⟩
        rcases List.mem_cons.1 ht with rfl | ht
        · exact hs _ (entry_lk h (hp p List.mem_cons_self) es).2
        · exact h2 t ht
    exact this _ (fun _ h => h)
  obtain ⟨l, e, hl⟩ := hk
  have hsz : Maps.size D = l.length := by
    have h1 : (entries D).length = l.length := by have := congrArg List.length e; simpa using this
    obtain ⟨es, rfl, _⟩ := h.tidy
    exact h1
  have hnl : l.Nodup := by
    rw [e] at hnd
    exact (List.pairwise_map.1 hnd).imp (fun {a b} h e => h (by rw [e]))
  have := len_sub l N hnl hl
  omega
theorem few_list {S : St} {T n : Nat} (D : Dk S T) (hd : S.dead = false) (hf : ∀ t, lk S.names t ≠ 0 → t = nCur ∨ t = mnm n) : (listS S).length ≤ 3 := by
  have h := keys_in (N := [nCur, mnm n]) D.hn (fun s hs => by rcases hf s hs with e | e <;> simp [e])
  have e : (namesL S).length = Maps.size S.names := by
    unfold namesL
    rw [List.length_mergeSort]
    obtain ⟨es, he, _⟩ := D.hn.tidy
    rw [he]
    exact List.length_map _
  unfold listS
  rw [hd]
  simp at h
  simp
  omega

end Go.Proofs.YtcahlmneancapabGreatDoor.Clep

/- A renewal, a Save, and a file struck and laid anew, on a Disk where nothing fails; Open behind such. Up to 60 files. -/
namespace Go.Proofs.YtcahlmneancapabGreatDoor.Clep
open Go.RowKit Go.Maps Go.Sort
set_option linter.unusedVariables false
set_option maxRecDepth 10000

theorem calm_pre {le : Nat → List Int} {S : St} {T : Nat} {W : List Int} (D : Dk S T) (h6 : T + 1 ≤ 60) (hc : Calm S) (hq : tot S + W.length + (le (T + 1)).length ≤ 250000) (hq2 : tot S + W.length + (le (T + 1)).length ≤ S.q) :
    ∃ S', preS S (T + 1) W (le (T + 1)) = (0, 2, S') ∧ Md S 0 S' ∧ S'.calls ≤ S.calls + 10 ∧ tot S' ≤ tot S + W.length + (le (T + 1)).length ∧ S'.q = S.q ∧ Dk S' (T + 1) ∧ Solo le S' (T + 1) W W.length ∧ lk S'.names nFrs = 0 := by
  have i1 : mnm (T + 1) ≠ nCur := mnm_cur (by omega) (by omega)
  have i2 : mnm (T + 1) ≠ nFrs := mnm_frs (by omega) (by omega)
  have hfree : lk S.names (mnm (T + 1)) = 0 := Classical.byContradiction fun h => by
    rcases D.now.sup _ h with h | h | ⟨k, h2, h3, h⟩
    · exact i1 h
    · exact i2 h
    · have := mnm_inj (by omega) (by omega) h; omega
  obtain ⟨E1, S1, e1⟩ : ∃ E1 S1, layS S (mnm (T + 1)) W = (E1, S1) := ⟨_, _, rfl⟩
  obtain ⟨m1, c1, k1, d1, t1, s1⟩ := lay_ok D (Nat.le_succ T) h6 (.inr (.inr ⟨T + 1, by omega, Nat.le_refl _, rfl⟩)) (mnm_okAll _ (by omega)).1 (fun _ => hfree) (by omega) (by omega) e1
  obtain ⟨n1, hc1⟩ := m1.calm hc
  subst n1
  have D1 : Dk S1 (T + 1) := by rcases d1 with h | h; exact absurd rfl h.1; exact h.1
  have l1 : lk S1.names (mnm (T + 1)) ≠ 0 := by rcases d1 with h | h; exact absurd rfl h.1; exact h.2
  obtain ⟨E2, S2, e2⟩ : ∃ E2 S2, prepS S1 (le (T + 1)) = (E2, S2) := ⟨_, _, rfl⟩
  obtain ⟨m2, c2, k2, D2, t2, s2⟩ := prep_ok D1 (by omega) (by rw [k1.q]; omega) e2
  obtain ⟨n2, hc2⟩ := m2.calm hc1
  subst n2
  have sw2 := k2.slot _ _ _ i2 (s1 rfl)
  have l2 : lk S2.names (mnm (T + 1)) ≠ 0 := by rw [k2.live _ i2]; exact l1
  obtain ⟨sf2, ho2⟩ := s2 rfl
  obtain ⟨E3, S3, e3⟩ : ∃ E3 S3, renS S2 nFrs nCur = (E3, S3) := ⟨_, _, rfl⟩
  have hfr := slot_fl D2 sf2
  obtain ⟨g, hg, g1, g2, g3⟩ := sf2
  obtain ⟨f, hf, f1, f2, f3⟩ := sw2
  have O3 := rename_op okFrs okCur cur_frs.symm hg e3
  have c3 := O3.calls
  obtain ⟨n3, hc3⟩ := O3.md.calm hc2
  subst n3
  rcases O3.res with ⟨n3, q3⟩ | ⟨-, B, q3, r3⟩
  · exact absurd rfl n3
  try simp only at r3
  have DB := q3.dk D2
  have hoB : ∀ N, Outs B N → N = lk B.names := fun N hN => by rw [q3.outs] at hN; rw [q3.names]; exact ho2 N hN
  obtain ⟨D3, l3, o3⟩ := ren_dk DB nFrs nCur cur_frs.symm (.inl rfl) (fun N hN => by rw [hoB N hN, q3.names]; exact hfr)
  rw [← r3] at D3 l3 o3
  have t3 : tot S3 = tot S2 := by rw [r3]; unfold tot; show totF B.files = _; rw [q3.files]
  have fl3 : S3.files = S2.files := by rw [r3]; exact q3.files
  have lc : lk S3.names nCur = lk S2.names nFrs := by rw [l3]; simp [q3.names]
  have lm : lk S3.names (mnm (T + 1)) = lk S2.names (mnm (T + 1)) := by rw [l3]; simp [q3.names, i1, i2]
  have lf : lk S3.names nFrs = 0 := by rw [l3]; simp [cur_frs.symm]
  have A3 : Am le S3.files (lk S3.names) (T + 1) W W.length := ⟨g, f, by rw [fl3, lc]; exact hg, g1, by rw [g2, g1], by rw [fl3, lm]; exact hf, f1, f2⟩
  have lm0 : lk S3.names (mnm (T + 1)) ≠ 0 := by rw [lm]; exact l2
  obtain ⟨E4, S4, e4⟩ : ∃ E4 S4, syncDirS S3 = (E4, S4) := ⟨_, _, rfl⟩
  have O4 := syncDir_op e4
  have c4 := O4.calls
  have Q3 : S3.q = S.q := by rw [r3]; exact q3.q.trans (k2.q.trans k1.q)
  obtain ⟨n4, hc4⟩ := O4.md.calm hc3
  subst n4
  rcases O4.res with ⟨n4, q4⟩ | ⟨-, B4, q4, r4⟩
  · exact absurd rfl n4
  have D4' := q4.dk D3
  obtain ⟨k4, D4, t4⟩ := settle_kp D4' nFrs
  have hO := (settle_dk D4').2
  rw [← r4] at k4 D4 t4 hO
  have tB4 : tot B4 = tot S3 := by unfold tot; rw [q4.files]
  have ln4 : lk S4.names = lk S3.names := by rw [r4]; show lk B4.names = _; rw [q4.names]
  have hc0 : lk S3.names nCur ≠ 0 := by rw [lc]; exact hfr
  have A4 : Am le S4.files (lk S4.names) (T + 1) W W.length := by
    refine A3.congr ?_ ?_
    · rw [ln4, ← q4.files, ← q4.names, r4]; exact settle_at B4 D4'.hn (by rw [q4.names]; exact hc0)
    · rw [ln4, ← q4.files, ← q4.names, r4]; exact settle_at B4 D4'.hn (by rw [q4.names]; exact lm0)
  refine ⟨S4, ?_, ((m1.trans m2).trans O3.md).trans O4.md, by omega, by omega, k4.q.trans (q4.q.trans Q3), D4, ⟨⟨lk S4.names (mnm (T + 1)), fun N hN => ?_⟩, by omega, by omega⟩, by rw [ln4]; exact lf⟩
  · unfold preS
    rw [e1]
    simp [e2, e3, e4]
  · have := hO N hN
    have h2 : lk B4.names = lk S4.names := by rw [ln4, q4.names]
    rw [this, h2]
    exact ⟨rfl, A4⟩
theorem calm_renew {le : Nat → List Int} {S : St} {T : Nat} {W : List Int} (D : Dk S T) (h6 : T + 1 ≤ 60) (hc : Calm S) (hq : tot S + W.length + (le (T + 1)).length ≤ 250000) (hq2 : tot S + W.length + (le (T + 1)).length ≤ S.q) :
    ∃ S', renewS S (T + 1) W (le (T + 1)) = (0, 2, S') ∧ Calm S' ∧ Dk S' (T + 1) ∧ lk S'.names (mnm (T + 1)) ≠ 0 ∧ Solo le S' (T + 1) W W.length ∧ tot S' ≤ tot S + W.length + (le (T + 1)).length ∧ S'.q = S.q ∧ S'.calls ≤ S.calls + 100 := by
  obtain ⟨S4, e4, m4, c4, t4, q4, D4, so4, f4⟩ := calm_pre D h6 hc hq hq2
  have hc4 := (m4.calm hc).2
  have hn : lk S4.names (mnm (T + 1)) ≠ 0 := by
    obtain ⟨x, hx⟩ := so4.all
    exact (at_fl D4 (hx _ D4.nm).2).2.1
  have hlen := names_len D4
  have hl2 : (if S4.dead then [] else namesL S4).length ≤ 62 := by split; simp; exact hlen
  obtain ⟨b1, b2, b3, b4, b5, b6, b7, b8, b9⟩ := sweep_ok (if S4.dead then [] else namesL S4) S4 D4 so4 hn
  refine ⟨sweepL (T + 1) (if S4.dead then [] else namesL S4) S4, ?_, b1.calm hc4, b3, b5, b4, by omega, b7.trans q4, by omega⟩
  unfold renewS
  rw [e4]
  rfl
/-- A Save where the file is there. -/
theorem calm_save {S : St} {T : Nat} {s : ByteArray} {f : Fl} {zs : List Int} (D : Dk S T) (hc : Calm S) (hok : okName s = true) (hf : fileAt S.files (lk S.names s) = some f) (hq : tot S + zs.length ≤ 250000) (hq2 : tot S + zs.length ≤ S.q) : ∃ S', saveS S s zs = (0, 2, S') ∧ Calm S' := by
  obtain ⟨E1, S1, e1⟩ : ∃ E1 S1, appendS S s zs = (E1, S1) := ⟨_, _, rfl⟩
  have O1 := append_op D hok hf hq hq2 e1
  obtain ⟨z, hc1⟩ := O1.md.calm hc
  subst z
  rcases O1.res with ⟨n1, q1⟩ | ⟨-, B, q1, r1⟩
  · exact absurd rfl n1
  try simp only at r1
  have hf1 : fileAt S1.files (lk S1.names s) = some (growF zs f) := by
    rw [r1]
    show fileAt (updF B.files f.num (growF zs)) (lk B.names s) = _
    have hA := (upd_dk (q1.dk D) f.num (growF zs) (fun f => rfl) (fun f h => by simp [growF]; omega)).2
    rw [hA, q1.names, q1.files, hf]
    simp only [Option.map_some]
    rw [if_pos (D.last hf).1]
  obtain ⟨E2, S2, e2⟩ : ∃ E2 S2, syncS S1 s = (E2, S2) := ⟨_, _, rfl⟩
  have O2 := sync_op hok hf1 e2
  obtain ⟨z, hc2⟩ := O2.md.calm hc1
  subst z
  refine ⟨S2, ?_, hc2⟩
  unfold saveS
  rw [e1]
  simp [e2]
/-- A file struck, made anew and written. -/
theorem calm_swap {S : St} {T : Nat} {s : ByteArray} {f : Fl} {zs : List Int} (D : Dk S T) (hc : Calm S) (hok : okName s = true) (hs : okM T s) (hf : fileAt S.files (lk S.names s) = some f) (hq : tot S + zs.length ≤ 250000) (hq2 : tot S + zs.length ≤ S.q) :
    ∃ S1, rmvS S s = (0, S1) ∧ Calm S1 ∧ Dk S1 T ∧ S1.calls = S.calls + 1 ∧ Kpt s S S1 ∧ lk S1.names s = 0 ∧ ∃ S2, createS S1 s = (0, S2) ∧ S2.calls = S.calls + 2 ∧ ∃ S3, appendS S2 s zs = (0, S3) ∧ Calm S3 ∧ Dk S3 T ∧ S3.calls = S.calls + 3 ∧ S3.q = S.q ∧ tot S3 ≤ tot S + zs.length ∧ Kpt s S S3 ∧ lk S3.names s ≠ 0 ∧ ∃ f', fileAt S3.files (lk S3.names s) = some f' ∧ f'.bs = zs := by
  obtain ⟨E1, S1, e1⟩ : ∃ E1 S1, rmvS S s = (E1, S1) := ⟨_, _, rfl⟩
  have O1 := remove_op hok hf e1
  obtain ⟨z, hc1⟩ := O1.md.calm hc
  subst z
  rcases O1.res with ⟨n1, q1⟩ | ⟨-, B1, q1, r1⟩
  · exact absurd rfl n1
  try simp only at r1
  obtain ⟨k1, D1, l1⟩ := rmv_kp (q1.dk D) s
  have t1 : tot S1 = tot S := by rw [r1]; unfold tot; show totF B1.files = _; rw [q1.files]
  rw [← r1] at k1 D1 l1
  have K1 := (q1.kp s).trans k1
  obtain ⟨E2, S2, e2⟩ : ∃ E2 S2, createS S1 s = (E2, S2) := ⟨_, _, rfl⟩
  have O2 := create_op D1 hok (fun _ => l1) e2
  obtain ⟨z, hc2⟩ := O2.md.calm hc1
  subst z
  rcases O2.res with ⟨n2, q2⟩ | ⟨-, B2, q2, r2⟩
  · exact absurd rfl n2
  try simp only at r2
  obtain ⟨k2, sl2, D2, l2, t2⟩ := add_kp (q2.dk D1) (Nat.le_refl T) D.sm hs
  rw [← r2] at k2 sl2 D2 l2 t2
  have K2 := K1.trans ((q2.kp s).trans k2)
  have tB2 : tot B2 = tot S1 := by unfold tot; rw [q2.files]
  obtain ⟨f2, hf2, g1, g2, g3⟩ := sl2
  obtain ⟨E3, S3, e3⟩ : ∃ E3 S3, appendS S2 s zs = (E3, S3) := ⟨_, _, rfl⟩
  have O3 := append_op D2 hok hf2 (by omega) (by rw [K2.q]; omega) e3
  obtain ⟨z, hc3⟩ := O3.md.calm hc2
  subst z
  rcases O3.res with ⟨n3, q3⟩ | ⟨-, B3, q3, r3⟩
  · exact absurd rfl n3
  try simp only at r3
  obtain ⟨k3, D3, sl3, t3⟩ := upd_kp (q3.dk D2) (s := s) (f := f2) (g := growF zs) (by rw [q3.files, q3.names]; exact hf2) (by unfold Ow at *; rw [q3.names, q3.outs]; exact g3) (fun f => rfl) (fun f h => by simp [growF]; omega)
  have l3 : lk S3.names s ≠ 0 := by rw [r3]; show lk B3.names s ≠ 0; rw [q3.names]; exact l2
  rw [← r3] at k3 D3 sl3 t3
  have t3' := t3 zs.length (fun f => by simp [growF])
  have tB3 : tot B3 = tot S2 := by unfold tot; rw [q3.files]
  obtain ⟨f3, hf3, g1', g2', g3'⟩ := sl3
  have K3 := K2.trans ((q3.kp s).trans k3)
  have c1 := O1.calls
  have c2 := O2.calls
  have c3 := O3.calls
  exact ⟨S1, e1, hc1, D1, c1, K1, l1, S2, e2, by omega, S3, e3, hc3, D3, by omega, K3.q, by omega, K3, l3, f3, hf3, by rw [g1']; simp [growF, g1]⟩
/-- Open by what is read, on a Disk where nothing fails. -/
theorem kd_open_read {K : Nat → Prop} {w : World} {R n T k : Nat} {S : St} {X Z : List Int} {V : Vw} (h : Kd K w R S) (D : Dk S T) (hT : lk S.names (mnm T) ≠ 0) (hc : Calm S) (r1 : readS S nCur = (0, Z)) (hl : ldP Z = some n) (h1 : 1 ≤ n) (h2 : n < 100) (r2 : readS S (mnm n) = (0, X)) (hr : rpE X = some (V, k)) (hu : Vnn V) (h6 : T + 1 ≤ 60) (hq : tot S + 1334 ≤ 250000) (hq2 : tot S + 1334 ≤ S.q) (hm : S.calls < 68719476736) :
    Calls Tryz.prog 15 #[.pointer (some ⟨R, 0, none⟩)] w fun e w' => Same K w w' ∧ ∃ M n' c' S', e = .returned (.tuple #[.pointer (some ⟨M, 0, none⟩), .int .i64 0]) ∧ Km K w' M R n' c' V false S' ∧ Calm S' ∧ S'.q = S.q ∧ S'.calls ≤ S.calls + 100 ∧ tot S' ≤ tot S + 1334 ∧ w.heap.size ≤ M ∧
      ((n' = n ∧ c' = (SP (X.take k)).1.length ∧ c' ≤ 30 ∧ S' = S ∧ k = X.length) ∨ (n' = T + 1 ∧ c' = 1 ∧ Mp S' (T + 1) (T + 1) [wholeE V] (el [wholeE V]).length V)) := by
  have hlt := fun i (hi : K i) => h.lt hi
  obtain ⟨F, m, hF⟩ := h
  obtain ⟨-, -, hvk⟩ := rpE_le hr
  have hw := (whB_facts (whole_may hvk hu)).2
  have hz := leB_len (T + 1)
  have hn := next_eq D hc.2.2 hT
  obtain ⟨S2, e2, hc2, D2, l2, so2, t2, q2, cl2⟩ := calm_renew (le := leB) (W := whB V) D h6 hc (by omega) (by omega)
  refine (open_any m D r1 hl h1 h2 r2 hr hu hm (by rw [hn]; omega) (fun E1 S1 e1 => ?_) (fun S4 e4 => ?_)).mono ?_
  · rw [hn] at e1
    have hfree : lk S.names (mnm (T + 1)) = 0 := Classical.byContradiction fun h => by
      rcases D.now.sup _ h with h | h | ⟨k, h2, h3, h⟩
      · exact mnm_cur (by omega) (by omega) h
      · exact mnm_frs (by omega) (by omega) h
      · have := mnm_inj (by omega) (by omega) h; omega
    obtain ⟨m1, c1, k1, d1, t1, s1⟩ := lay_ok D (Nat.le_succ _) h6 (.inr (.inr ⟨T + 1, by omega, Nat.le_refl _, rfl⟩)) (mnm_okAll _ (by omega)).1 (fun _ => hfree) (by omega) (by omega) e1
    rcases d1 with h | h
    · exact ⟨_, h.2.1⟩
    · exact ⟨_, h.1⟩
  · rw [hn] at e4
    obtain ⟨S4', e4', -, -, -, -, D4, -, -⟩ := calm_pre (le := leB) (W := whB V) D h6 hc (by omega) (by omega)
    rw [e4'] at e4
    injection e4 with _ e4
    injection e4 with _ e4
    subst e4
    exact ⟨_, D4⟩
  rintro e w' ⟨q1, q2'⟩
  by_cases hcs : k = X.length ∧ (SP (X.take k)).1.length ≤ 30
  · obtain ⟨M, F', f1, rfl, f2, f3, f4⟩ := q1 ⟨decide_eq_true hcs.1, hcs.2⟩
    exact ⟨same_of f3 hlt, M, n, _, S, rfl, ⟨⟨F', f2, fun i hi => f1 i (hF i hi)⟩, fun hK => by have := hlt _ hK; omega⟩, hc, rfl, by omega, by omega, f4, .inl ⟨rfl, rfl, hcs.2, rfl, hcs.1⟩⟩
  · obtain ⟨E, ph, S', f1, f2, f3, f4, f5⟩ := q2' (fun h => hcs ⟨of_decide_eq_true h.1, h.2⟩)
    rw [hn, e2] at f1
    injection f1 with a1 a2
    injection a2 with a2 a3
    subst a1 a2 a3
    obtain ⟨M, F', g1, rfl, g3, g4⟩ := f5 rfl
    rw [if_neg (by decide), if_neg (by decide), hn] at g3
    refine ⟨f2.mono hF, M, T + 1, 1, S2, rfl, ⟨⟨F', g3, fun i hi => g1 i (hF i hi)⟩, fun hK => by have := hlt _ hK; omega⟩, hc2, q2, cl2, by omega, g4, .inr ⟨rfl, rfl, D2, by omega, l2, ?_, fun E hE => ?_, ?_, by simp⟩⟩
    · have h3 := so2; unfold whB at h3; rw [el_one]; exact h3
    · rw [List.mem_singleton.1 hE]; exact whole_may hvk hu
    · rw [apE_cons, appl_whole hvk]; rfl

end Go.Proofs.YtcahlmneancapabGreatDoor.Clep

/- A frame that is taken is just the bytes that would be put. No conditions. -/
namespace Go.Proofs.YtcahlmneancapabGreatDoor.Clep
open Go.RowKit
set_option linter.unusedVariables false
set_option maxRecDepth 10000

theorem fr_canon (X : List Int) (hX : ByteL X) (hce : ce X = 0) : X.take ((ln X).toNat + 12) = fr (kd X) (bo X) := by
  obtain ⟨g1, g2, _, _, g5, g6, g7⟩ := ce_ok X hce
  have hln := ln_range X (range_of hX)
  obtain ⟨n, hn⟩ : ∃ n, (ln X).toNat = n := ⟨_, rfl⟩
  have hlnn : ln X = (n : Int) := by omega
  have hbl := bo_len X hce
  rw [hn] at hbl g6 ⊢
  have hbd : sl (bo X) = bd X := by
    have hl : (bd X).length = n + 4 := by unfold bd; rw [List.length_drop, List.length_take, hn]; omega
    have hr : ByteL (bd X) := fun z hz => hX z (List.mem_of_mem_take (List.mem_of_mem_drop hz))
    have := (sl_iff (bd X) n hr hl).2 (by
      unfold good
      unfold be at g7
      rw [hn] at g7
      split at g7
      · assumption
      · cases g7)
    have e : bo X = (bd X).take n := by unfold bo; rw [hn]
    rw [e]; exact this
  have hhd : sl (X.take 4) = X.take 8 := by
    have hl : (X.take 8).length = 4 + 4 := by rw [List.length_take]; omega
    have := (sl_iff (X.take 8) 4 (ByteL.take hX 8) hl).2 (by
      unfold good
      unfold he at g2
      split at g2
      · assumption
      · cases g2)
    rwa [List.take_take] at this
  have h4 : X.take 4 = hd (kd X) n := by
    have hb := range_of hX
    have b1 := hb 1
    have b2 := hb 2
    have b3 := hb 3
    unfold ln at hlnn
    have e4 : X.take 4 = [X.getD 0 0, X.getD 1 0, X.getD 2 0, X.getD 3 0] := by
      match X, g1 with
      | _ :: _ :: _ :: _ :: _, _ => rfl
    unfold kd
    rw [e4]
    generalize X.getD 1 0 = x1 at *
    generalize X.getD 2 0 = x2 at *
    generalize X.getD 3 0 = x3 at *
    unfold hd
    have c1 : x1 = ((n / 65536 : Nat) : Int) := by omega
    have c2 : x2 = ((n / 256 : Nat) : Int) := by omega
    have c3 : x3 = ((n % 256 : Nat) : Int) := by omega
    rw [c1, c2, c3]
  unfold fr
  rw [hbl, ← h4, hhd, hbd]
  unfold bd
  rw [hn]
  have e : X.take 8 = (X.take (n + 12)).take 8 := by rw [List.take_take, Nat.min_eq_left (by omega)]
  rw [e, List.take_append_drop]

end Go.Proofs.YtcahlmneancapabGreatDoor.Clep
