/- A call of both Disks (the statements' own function Do): a Copy goes on alone. -/
import Derived.Test.YtfogfpanfhmijaaGreatYk
import Derived.Test.YtfogfpanfhmijaaGreatZb
namespace Go.Proofs.YtfogfpanfhmijaaGreat.Clep
open Go.RowKit Go.Maps
set_option linter.unusedVariables false

theorem copy_h {F : Nat → Prop} {R : Nat} {S : St} {w : World} (h : Held F w R S) (hm : S.calls ≤ 1000000) :
    Calls Tryz.prog 9 #[.pointer (some ⟨R, 0, none⟩)] w fun e w' => ∃ Rc, e = .returned (.pointer (some ⟨Rc, 0, none⟩)) ∧ Held (· < w.heap.size) w' Rc S ∧ Below w.heap.size w w' := by
  obtain ⟨G, D, hF⟩ := h
  refine (copy_any R S G w D hm).mono ?_
  rintro e w' ⟨Rc, G', rfl, D', b, t⟩
  exact ⟨Rc, rfl, ⟨G', D', fun i hi => ⟨Nat.lt_of_lt_of_le hi b.size, t i hi⟩⟩, b⟩
/-- A copy of the Disk, and the document's: they stand alike. -/
theorem copy_p {B : Nat} {w W : World} {R : Nat} {S : St} {Q : Nat} {T : RSt} (p : Pair B w R S Q T) (r : Rel S T) (hb : Below w.heap.size w W) :
    Calls Tryz.prog 9 #[.pointer (some ⟨R, 0, none⟩)] W fun e w' => ∃ Rc, e = .returned (.pointer (some ⟨Rc, 0, none⟩)) ∧ Held (· < W.heap.size) w' Rc S ∧ Below W.heap.size W w' := by
  obtain ⟨F, hd, _⟩ := p.progW hb
  exact copy_h hd (by rw [r.calls]; have := r.ok.cal; omega)
theorem same_p {B : Nat} {w W : World} {R Rc : Nat} {S : St} {Q : Nat} {T : RSt} {F : Nat → Prop} (p : Pair B w R S Q T) (r : Rel S T) (nm : NmOk T) (hb : Below w.heap.size w W) (hd : Held F W Rc S) :
    Calls Tryz.prog 13 #[.pointer (some ⟨Rc, 0, none⟩), .pointer (some ⟨Q, 0, none⟩)] W fun e w' => e = .returned (.bool true) ∧ Below W.heap.size W w' := by
  obtain ⟨P, fv, nv, lv, ov, rf, _⟩ := (p.below hb).1.refd
  exact same_any hd rf r (fun x hx => by have := nm.now x hx; omega)

set_option maxHeartbeats 4000000 in
set_option maxRecDepth 8000 in
theorem do10 {B : Nat} {w : World} {R : Nat} {S : St} {Q : Nat} {T : RSt} (p : Pair B w R S Q T) (r : Rel S T) (nm : NmOk T) (hc : T.calls < 1000) (kd n : Int) (hk : kd < 0 ∨ 9 < kd) (a b : ByteArray) (ka : Option Addr) (kl kc : Nat) :
    Calls Tryz.prog 8 #[.pointer (some ⟨R, 0, none⟩), .pointer (some ⟨Q, 0, none⟩), opV kd n a b (.slice ka kl kc)] w fun e w' => e = .returned (.bool true) ∧ Done B R Q T w w' := by
  have hbase := p.base
  have FIN := hide (show ∀ w', Below w.heap.size w w' → Done B R Q T w w' from fun w' b' => ⟨S, T, r, nm, Nat.le_succ _, (p.below b').1, (p.below b').2⟩)
  have r3 := crash_rel r []
  have hc3 : (crashT T []).calls < 1000 := hc
  have r4 := (create_rel r3 hc3 ⟨#[99, 111, 112, 121]⟩).2
  have hc4 := created_le (crashT T []) ⟨#[99, 111, 112, 121]⟩
  have k3 : (crashS S []).calls < 1099511627776 := by rw [r3.calls]; omega
  have k4 : (createS (crashS S []) ⟨#[99, 111, 112, 121]⟩).2.calls < 1099511627776 := by rw [r4.calls]; omega
  have CRA := hide (fun W F Rc (h : Held F W Rc S) (k2 : S.calls ≤ 1099511627776) => crash_h none 0 0 [] rfl h k2 ⟨none, 0, rfl, Nat.le_refl _, by omega, by simp, fun h => by simp at h⟩)
  have CCA := hide (fun W F Rc (h : Held F W Rc (crashS S [])) => create_h ⟨#[99, 111, 112, 121]⟩ (E := (createS (crashS S []) ⟨#[99, 111, 112, 121]⟩).1) (S' := (createS (crashS S []) ⟨#[99, 111, 112, 121]⟩).2) rfl h k3 (by decide))
  have APA := hide (fun W F Rc bx (h : Held F W Rc (createS (crashS S []) ⟨#[99, 111, 112, 121]⟩).2) hb ht => append_h (w := W) ⟨#[99, 111, 112, 121]⟩ (some ⟨bx, 0, none⟩) 5 5 [97, 108, 111, 110, 101] (E := (appendS (createS (crashS S []) ⟨#[99, 111, 112, 121]⟩).2 ⟨#[99, 111, 112, 121]⟩ [97, 108, 111, 110, 101]).1) (S' := (appendS (createS (crashS S []) ⟨#[99, 111, 112, 121]⟩).2 ⟨#[99, 111, 112, 121]⟩ [97, 108, 111, 110, 101]).2) rfl h k4 (by decide) hb (by omega) ht)
  generalize (appendS (createS (crashS S []) ⟨#[99, 111, 112, 121]⟩).2 ⟨#[99, 111, 112, 121]⟩ [97, 108, 111, 110, 101]).1 = E5 at *
  generalize (appendS (createS (crashS S []) ⟨#[99, 111, 112, 121]⟩).2 ⟨#[99, 111, 112, 121]⟩ [97, 108, 111, 110, 101]).2 = S5 at *
  generalize (createS (crashS S []) ⟨#[99, 111, 112, 121]⟩).1 = E4 at *
  generalize (createS (crashS S []) ⟨#[99, 111, 112, 121]⟩).2 = S4 at *
  generalize crashS S [] = S3 at *
  have k2 : S.calls ≤ 1099511627776 := by rw [r.calls]; omega
  have cP := hide (fun W (hb : Below w.heap.size w W) => copy_p p r hb)
  have cS := hide (fun W Rc F (hb : Below w.heap.size w W) (hd : Held F W Rc S) => same_p p r nm hb hd)
  clear r3 r4 hc3 hc4 p r nm hc k3 k4
  unfold opV
  have e0 : ¬ (kd = 0) := by omega
  have e1 : ¬ (kd = 1) := by omega
  have e2 : ¬ (kd = 2) := by omega
  have e3 : ¬ (kd = 3) := by omega
  have e4 : ¬ (kd = 4) := by omega
  have e5 : ¬ (kd = 5) := by omega
  have e6 : ¬ (kd = 6) := by omega
  have e7 : ¬ (kd = 7) := by omega
  have e8 : ¬ (kd = 8) := by omega
  have e9 : ¬ (kd = 9) := by omega
  clear hk
  have BX := hide ((Below.refl w.heap.size w).alloc (Nat.le_refl _) (.cells #[.int .i64 kd, .int .i64 n, .string a, .string b, .slice ka kl kc] 30))
  go_enter Tryz.func8, Tryz.ntmps8
  go_wp2_with fail
  refine (cP.out _ BX.out).mono ?_
  generalize w.alloc (.cells #[.int .i64 kd, .int .i64 n, .string a, .string b, .slice ka kl kc] 30) = wA at *
  rintro e w1 ⟨Rc, rfl, h1, b1⟩
  have hsA := BX.out.size
  have B1 := hide (BX.out.trans (b1.mono hsA))
  have SM := hide (cS.out w1 Rc _ B1.out h1)
  have H1 := hide h1
  have BA := hide b1
  clear h1 b1 cP cS e0 e1 e2 e3 e4 e5 e6 e7 e8 e9
  go_wp2_with fail
  refine SM.out.mono ?_
  rintro e w2 ⟨rfl, b2⟩
  have B2 := hide (B1.out.trans (b2.mono B1.out.size))
  have h2 := (H1.out.same b2).1
  have CR := hide (CRA.out _ _ _ h2 k2)
  clear h2 b2 SM H1
  go_wp2_with fail
  refine CR.out.mono ?_
  rintro e w3 ⟨rfl, h3, s3⟩
  have B3 := hide (B2.out.trans ((s3.below (fun i hi => hi)).mono hsA))
  have CC := hide (CCA.out _ _ _ h3)
  clear h3 s3 CR
  go_wp2_with fail
  refine CC.out.mono ?_
  rintro e w4 ⟨rfl, h4, s4⟩
  have B4 := hide (B3.out.trans ((s4.below (fun i hi => hi)).mono hsA))
  obtain ⟨v5, hcv, hb5, hB5, hl5⟩ := conv_lit w4 [97, 108, 111, 110, 101] (by decide) #[.int .u8 97, .int .u8 108, .int .u8 111, .int .u8 110, .int .u8 101] rfl 5 rfl
  have AP := hide (APA.out _ _ _ w4.heap.size (h4.wide hb5.out) hB5.out (fun b off h => by cases h; exact .inr ⟨Nat.le_refl _, hl5.out⟩))
  have B5 := hide (B4.out.trans (hb5.out.mono B4.out.size))
  clear h4 s4 CC hb5 hB5 hl5
  go_wp2_with fail
  refine AP.out.mono ?_
  rintro e w6 ⟨rfl, h6, s6⟩
  have B6 := hide (B5.out.trans ((s6.below (fun i hi => .inl hi)).mono hsA))
  clear h6 s6 AP
  go_wp2
  go_ret
  exact ⟨rfl, FIN.out _ B6.out⟩

end Go.Proofs.YtfogfpanfhmijaaGreat.Clep
