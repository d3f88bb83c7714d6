/- What Apply does when called. Conditions: fewer than 2^40 items in all; the items that are handed in are no part of the Mem; the table of math/bits reads as its initialiser lays it, and is no part of the Mem. -/
import Derived.Test.YtjpoahnecbefaaaDoorMApply
namespace Go.Proofs.YtjpoahnecbefaaaDoor.Clep
open Go.RowKit
set_option linter.unusedVariables false

theorem ap_step {w wr w1 w2 w3 : World} {M L n0 : Nat} {C : Nat → Prop} {l : List It} {k : Nat} {ws : List (It × Nat)} {x : It} (h : Ap w wr M L n0 C l k ws) (hx : l[k]? = some x) (hMC : ¬ C M) (hMw : M < w.heap.size)
    (h1 : Below wr.heap.size wr w1) (h2 : Below w1.heap.size w1 w2)
    (hh : Held w3 L (fun b => (C b ∨ (w.heap.size ≤ b ∧ b < wr.heap.size)) ∨ (w2.heap.size ≤ b ∧ b < w3.heap.size)) (putA x (hgt x.S x.K x.T : Nat) (putAll (l.take k) ws)).2)
    (hc : Ch (fun b => C b ∨ (w.heap.size ≤ b ∧ b < wr.heap.size)) w2 w3) : Ap w w3 M L n0 C l (k + 1) ws := by
  have hs0 := h.ch.size
  have hs1 := h1.size
  have hs2 := h2.size
  have hs3 := hc.size
  refine ⟨((h.blk.keep h1).keep h2).ch hc (fun e => ?_), ?_, ?_⟩
  · rcases e with e | e
    · exact hMC e
    · omega
  · rw [putAll_take l k x hx ws]
    obtain ⟨q1, S, q2, q3, q4, q5, q6⟩ := hh
    refine ⟨fun b hb => ?_, S, q2, q3, q4, q5, fun b hb => ?_⟩
    · rcases hb with e | e
      · exact q1 b (.inl (.inl e))
      · exact e.2
    · rcases q6 b hb with (e | e) | e
      · exact .inl e
      · exact .inr ⟨e.1, by omega⟩
      · exact .inr ⟨by omega, e.2⟩
  · have a1 : Ch C w w2 := (h.ch.trans (Ch.of h1)).trans (Ch.of h2)
    refine ⟨hc.os.trans a1.os, hc.tape.trans a1.tape, hc.output.trans a1.output, Nat.le_trans a1.size hc.size, fun i hi hp => ?_⟩
    rw [hc.block i (by omega) (fun e => e.elim hp (fun e => by omega))]
    exact a1.block i hi hp

set_option maxRecDepth 100000 in
set_option maxHeartbeats 4000000 in
theorem mapply_good (w : World) (M L : Nat) (C : Nat → Prop) (ws : List (It × Nat)) (a : Option Addr) (n c : Nat) (l : List It) (hI : Is w a n c l) (hn : n ≤ 1000000000) (hws : ws.length ≤ 1000000000)
    (hB : Blk w M (memV L ws.length false) 59) (hH : Held w L C ws) (hMC : ¬ C M) (hnC : 0 < n → ∀ x, a = some x → ¬ C x.block) (hTb : Tab w) (h0C : ¬ C 0) (hok : l.all It.ok = true) (hFz : Hid (Calls Tryd.prog 17 #[.pointer (some ⟨M, 0, none⟩)] w fun e w' => e = .returned (.bool false) ∧ w' = w)) :
    Calls Tryd.prog 9 #[.pointer (some ⟨M, 0, none⟩), .slice a n c] w fun e w' => e = .returned (.int .i64 0) ∧
      Blk w' M (memV L (putAll l ws).length false) 59 ∧ Held w' L (fun b => C b ∨ (w.heap.size ≤ b ∧ b < w'.heap.size)) (putAll l ws) ∧ Ch (fun b => C b ∨ b = M) w w' := by
  have hMw := hB.lt
  have hl := hide hI.1
  have HWF := hide hI.2.2.1
  have HI := hide (fun W (hW : Ch C w W) => hI.ch hW hnC)
  have HT := hide (fun W (hW : Ch C w W) => hTb.ch hW h0C)
  have C2 := hide (mallok_any a n c l w hI (by omega))
  rw [hok] at C2
  have A0 := hide (fun W (hb : Below w.heap.size w W) => show Ap w W M L ws.length C l 0 ws from ⟨hB.keep hb, by
    obtain ⟨q1, S, q2, q3, q4, q5, q6⟩ := hH.keep hb
    exact ⟨fun b hb' => hb'.elim (q1 b) (fun e => e.2), S, q2, q3, q4, q5, fun b hb' => .inl (q6 b hb')⟩, Ch.of hb⟩)
  have HMC := hide hMC
  have HCl := hide (fun b (hb : C b) => (show b < w.heap.size from hH.lt b hb))
  have hR0 := hide hTb.lt
  clear hI hTb hok hB hH
  go_enter Tryd.func9, Tryd.ntmps9
  go_wp2_with fail
  refine hFz.out.mono ?_
  rintro e w1 ⟨rfl, rfl⟩
  go_wp2_with fail
  refine C2.out.mono ?_
  rintro e w2 ⟨rfl, b2⟩
  have A2 := hide (A0.out _ b2)
  clear b2 C2 A0 hFz
  go_wp2_with fail
  go_loopw [14] (fun i wr => ∃ k : Nat, k ≤ n ∧ i = .int .i64 k ∧ Hid (Ap w1 wr M L ws.length C l k ws)) (fun i _ => n - (intOf i).toNat)
  case atStart => exact ⟨0, by omega, rfl, A2⟩
  case round =>
    obtain ⟨k, hk, rfl, hap⟩ := hrel
    by_cases hlt : k < n
    · obtain ⟨b0, off, ea, hc⟩ := (HI.out _ hap.out.ch).2.2.2 (by omega)
      subst ea
      obtain ⟨x, hx⟩ : ∃ x, l[k]? = some x := ⟨_, List.getElem?_eq_getElem (by rw [hl.out]; exact hlt)⟩
      have hv := hc k x hx
      have HX := hide hx
      have hwx := hide (HWF.out _ (List.mem_of_getElem? hx))
      have hsz := hide (show (putAll (l.take k) ws).length < 1099511627776 by have := putAll_len (l.take k) ws; rw [List.length_take] at this; omega)
      have APS := hide (fun (W1 W2 W3 : World) h1 h2 hh hc => ap_step (w1 := W1) (w2 := W2) (w3 := W3) hap.out hx HMC.out hMw h1 h2 hh hc)
      obtain ⟨S, K, T, V, X⟩ := x
      unfold Vt Vi at hv
      simp only at hv
      obtain ⟨v0, v1, v2, v3, v4⟩ := hv
      have A1 := (Below.refl _ wr).alloc (Nat.le_refl _) (Obj.cells #[Value.int IntKind.i64 S, Value.int IntKind.i64 K, Value.int IntKind.u64 T, Value.int IntKind.u64 V, Value.int IntKind.i64 X] 32)
      have X1 := vi_new wr S K T V X
      obtain ⟨R, hR⟩ : ∃ R, R = wr.heap.size := ⟨_, rfl⟩
      obtain ⟨w3, hw3⟩ : ∃ w3, w3 = wr.alloc (Obj.cells #[Value.int IntKind.i64 S, Value.int IntKind.i64 K, Value.int IntKind.u64 T, Value.int IntKind.u64 V, Value.int IntKind.i64 X] 32) := ⟨_, rfl⟩
      rw [← hw3] at A1 X1
      rw [← hR] at X1
      have BA := hide A1
      obtain ⟨P, hP⟩ : ∃ P : Nat → Prop, P = fun b => C b ∨ (w1.heap.size ≤ b ∧ b < wr.heap.size) := ⟨_, rfl⟩
      have HPR : Hid (¬ P R) := hide (by rw [hP]; exact fun e => e.elim (fun e => by have := HCl.out R e; have := hap.out.ch.size; omega) (fun e => by omega))
      have HPM : Hid (¬ P M) := hide (by rw [hP]; exact fun e => e.elim HMC.out (fun e => by omega))
      have HP0 : Hid (¬ P 0) := hide (by rw [hP]; exact fun e => e.elim h0C (fun e => by have := hR0.out; omega))
      have T3 := hide ((HT.out _ hap.out.ch).keep A1)
      have hmem := hap.out.blk.keep A1
      have KM := hide hmem
      have HE := hide (hap.out.held.keep A1)
      rw [← hP] at HE
      have HK : Hid (∀ W, Ch P w3 W → (Ch P w3 W ∧ W.cell? ⟨M, 0, none⟩ = some (.pointer (some ⟨L, 0, none⟩)) ∧ W.cell? ⟨R, 0, none⟩ = some (.int .i64 S) ∧ W.cell? ⟨R, 1, none⟩ = some (.int .i64 K) ∧ W.cell? ⟨R, 2, none⟩ = some (.int .u64 T) ∧ W.cell? ⟨R, 3, none⟩ = some (.int .u64 V) ∧ W.cell? ⟨R, 4, none⟩ = some (.int .i64 X))) := hide fun W hW => by
        have q := X1.ch hW HPR.out
        unfold Vi at q
        simp only [Nat.zero_add] at q
        exact ⟨hW, (hmem.ch hW HPM.out).cell rfl, q.1, q.2.1, q.2.2.1, q.2.2.2.1, q.2.2.2.2⟩
      have cH : Hid (∀ W, Ch P w3 W → Calls Tryd.prog 18 #[.agg #[.int .i64 S, .int .i64 K, .int .u64 T, .int .u64 V, .int .i64 X]] W fun e w' => e = .returned (.int .i64 (hgt S K T : Nat)) ∧ Below W.heap.size W w' ∧ Ch P w3 w') := hide fun W hW =>
        (height_any S K T V X W hwx.out.2.2.1 (T3.out.ch hW HP0.out)).mono fun e w' q => ⟨q.1, q.2, hW.trans (Ch.of q.2)⟩
      have cP : Hid (∀ W, Below w3.heap.size w3 W → Calls Tryd.prog 22 #[.pointer (some ⟨L, 0, none⟩), .agg #[.int .i64 S, .int .i64 K, .int .u64 T, .int .u64 V, .int .i64 X], .int .i64 (hgt S K T : Nat)] W fun e w' => ∃ r1 r2, e = .returned (.tuple #[.bool r1, .int .i64 r2]) ∧ Ch P w3 w' ∧ Hid (Ap w1 w' M L ws.length C l (k + 1) ws)) := hide fun W hW =>
        (put_h W L P (putAll (l.take k) ws) S K T V X (hgt S K T : Nat) (HE.out.keep hW) hwx.out hsz.out).mono fun e w' q => ⟨_, _, q.1, (Ch.of hW).trans q.2.2, hide (APS.out w3 W w' BA.out hW (by have := q.2.1; rw [hP] at this; exact this) (by have := q.2.2; rw [hP] at this; exact this))⟩
      have hd : Hid (∀ W, Below w3.drew.heap.size w3.drew W → Below w3.heap.size w3 W) := hide fun W hW => ((Below.refl _ w3).drew).trans hW
      have hk0 : Ch P w3 w3 := Ch.of (Below.refl _ _)
      have hk1 : Ch P w3 w3.drew := Ch.of (Below.refl _ _).drew
      have g := HK.out _ hk0
      obtain ⟨-, gM, g0, g1, g2, g3, g4⟩ := g
      generalize ((hgt S K T : Nat) : Int) = hg at *
      have hn' : ((k : Int) < (n : Int)) := by omega
      clear hc hx A1 X1 hmem hap hP
      go_wp2_with fail
      rw [← hw3, ← hR]
      clear hw3 hR v0 v1 v2 v3 v4
      go_region_held_law (fun W => Ch P w3 W ∧ W.cell? ⟨M, 0, none⟩ = some (.pointer (some ⟨L, 0, none⟩)) ∧ W.cell? ⟨R, 0, none⟩ = some (.int .i64 S) ∧ W.cell? ⟨R, 1, none⟩ = some (.int .i64 K) ∧ W.cell? ⟨R, 2, none⟩ = some (.int .u64 T) ∧ W.cell? ⟨R, 3, none⟩ = some (.int .u64 V) ∧ W.cell? ⟨R, 4, none⟩ = some (.int .i64 X))
        (first | exact HK.out _ (by with_reducible assumption) | exact HK.out _ hk1 | exact HK.out _ hk0)
        (first
        | (go_at_call 18; refine (cH.out _ (And.left (by with_reducible assumption))).mono ?_; rintro e w' ⟨rfl, hb7, hc7⟩)
        | (go_at_call 22; refine (cP.out _ (by first | (with_reducible assumption) | exact hd.out _ (by with_reducible assumption))).mono ?_; rintro e w'' ⟨r1, r2, rfl, hc8, hap8⟩))
      all_goals
        rename_i hX
        clear hX hc8 hc7 hb7 cP cH HK gM g0 g1 g2 g3 g4 hk0 hk1
        go_wp2
        go_roundw
        case rel => first | exact ⟨k + 1, by omega, by go_num, hap8⟩ | ((repeat apply Exists.intro); exact ⟨⟨k + 1, by omega, by go_num, hap8⟩, rfl⟩)
        case measure => simp [intOf]; omega
    · obtain rfl : k = n := by omega
      have hfin := hap.out
      rw [show Ap w1 wr M L ws.length C l k ws = Ap w1 wr M L ws.length C l l.length ws from by rw [hl.out]] at hfin
      have hheld := hfin.held
      rw [List.take_length] at hheld
      have hge := putAll_ge l ws
      have CL := hide (len_h wr L _ _ hheld)
      have CG := hide (mgrow_h wr M L ws.length (putAll l ws).length false hfin.blk hge)
      have HH := hide hheld
      have HCH := hide hfin.ch
      have hcell : wr.cell? ⟨M, 0, none⟩ = some (.pointer (some ⟨L, 0, none⟩)) := hfin.blk.cell rfl
      clear hap hfin hheld hge
      generalize hm : (putAll l ws).length = m at *
      have HMm := hide hm
      clear hm
      go_wp2_with fail
      refine CL.out.mono ?_
      rintro e w3 ⟨rfl, rfl⟩
      go_wp2_with fail
      refine CG.out.mono ?_
      rintro e w4 ⟨rfl, hb4, hc4⟩
      have HB4 := hide hb4
      have HC4 := hide hc4
      clear hb4 hc4 CG CL hcell
      go_wp2
      go_ret
      have hs4 := HC4.out.size
      refine ⟨rfl, by rw [HMm.out]; exact HB4.out, ?_, ?_⟩
      · obtain ⟨q1, S, q2, q3, q4, q5, q6⟩ := HH.out.ch HC4.out (fun b hb e => by
          rw [e] at hb
          rcases hb with e' | e'
          · exact HMC.out e'
          · omega)
        exact ⟨fun b hb' => hb'.elim (fun e => q1 b (.inl e)) (fun e => e.2), S, q2, q3, q4, q5, fun b hb' => (q6 b hb').elim .inl (fun e => .inr ⟨e.1, by omega⟩)⟩
      · exact (HCH.out.mono fun i _ e => .inl e).trans (HC4.out.mono fun i _ e => .inr e)


set_option maxRecDepth 100000 in
theorem mapply_h (w : World) (M : Nat) (B : Nat → Prop) (fr : Bool) (ws : List (It × Nat)) (a : Option Addr) (n c : Nat) (l : List It) (h : Mm w M B fr ws) (hI : Is w a n c l) (hn : n ≤ 1000000000) (hws : ws.length ≤ 1000000000)
    (hnB : 0 < n → ∀ x, a = some x → ¬ B x.block) (hTb : Tab w) (h0B : ¬ B 0) :
    Calls Tryd.prog 9 #[.pointer (some ⟨M, 0, none⟩), .slice a n c] w fun e w' => e = .returned (.int .i64 (applyE fr l)) ∧ Mm w' M (fun b => B b ∨ (w.heap.size ≤ b ∧ b < w'.heap.size)) fr (applyW fr l ws) ∧ Ch B w w' := by
  have HF := hide (mfrozen_h w M B fr ws h)
  have wide : ∀ W, Below w.heap.size w W → Mm W M (fun b => B b ∨ (w.heap.size ≤ b ∧ b < W.heap.size)) fr ws := fun W hb =>
    (h.keep hb).wide (fun b hb' => .inl hb') (fun b hb' => hb'.elim ((h.keep hb).lt b) (fun e => e.2))
  cases fr with
  | true =>
    have HW := hide (wide w (Below.refl _ _))
    go_enter Tryd.func9, Tryd.ntmps9
    go_wp2_with fail
    refine HF.out.mono ?_
    rintro e w1 ⟨rfl, rfl⟩
    go_wp2
    go_ret
    exact ⟨rfl, HW.out, Ch.of (Below.refl _ _)⟩
  | false =>
    cases hok : l.all It.ok with
    | false =>
      have C2 := hide (mallok_any a n c l w hI (by omega))
      rw [hok] at C2
      have HOK := hide hok
      have HW := hide wide
      clear hok wide
      go_enter Tryd.func9, Tryd.ntmps9
      go_wp2_with fail
      refine HF.out.mono ?_
      rintro e w1 ⟨rfl, rfl⟩
      go_wp2_with fail
      refine C2.out.mono ?_
      rintro e w2 ⟨rfl, b2⟩
      have B2 := hide b2
      clear b2 C2
      go_wp2
      go_ret
      refine ⟨?_, ?_, Ch.of B2.out⟩
      · unfold applyE; rw [HOK.out]; rfl
      · unfold applyW; rw [HOK.out]; exact HW.out _ B2.out
    | true =>
      obtain ⟨L, C, h1, h2, h3⟩ := h.ex
      refine (mapply_good w M L C ws a n c l hI hn hws h1 h2 (fun e => (h3 M e).2 rfl) (fun hp x hx e => hnB hp x hx (h3 _ e).1) hTb (fun e => h0B (h3 _ e).1) hok HF).mono ?_
      rintro e w' ⟨rfl, k1, k2, k3⟩
      have hs := k3.size
      have hMl := h.lt M h.base
      refine ⟨?_, ?_, k3.mono fun i _ e => e.elim (fun e => (h3 i e).1) (fun e => by rw [e]; exact h.base)⟩
      · unfold applyE; rw [hok]; rfl
      · unfold applyW; rw [hok]
        refine ⟨fun b hb => hb.elim (fun e => Nat.lt_of_lt_of_le (h.lt b e) hs) (fun e => e.2), .inl h.base, L, _, k1, k2, fun b hb => ?_⟩
        rcases hb with e | e
        · exact ⟨.inl (h3 b e).1, (h3 b e).2⟩
        · exact ⟨.inr e, by omega⟩

end Go.Proofs.YtjpoahnecbefaaaDoor.Clep
