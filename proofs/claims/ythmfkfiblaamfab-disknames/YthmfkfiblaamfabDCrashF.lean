/- What crash of a file does when called (a walk over the translated program): for any file of at most 250000 bytes, any numbers. -/
import Derived.Test.YthmfkfiblaamfabDSettleW
namespace Go.Proofs.Ythmfkfiblaamfab.Clep
open Go.RowKit Go.Maps
set_option linter.unusedVariables false

def keepN (f : Fl) (ks : List Int) : Nat := if f.bs.length = f.lasts then 0 else match ks with
  | [] => f.bs.length - f.lasts
  | k :: _ => (k % ((f.bs.length - f.lasts : Nat) + 1 : Int)).toNat
def restK (f : Fl) (ks : List Int) : List Int := if f.bs.length = f.lasts then ks else ks.tail
def crashF (f : Fl) (ks : List Int) : Fl := { f with lasts := f.lasts + keepN f ks, bs := f.bs.take (f.lasts + keepN f ks) }
theorem keepN_le (f : Fl) (ks : List Int) (h : f.lasts ≤ f.bs.length) : f.lasts + keepN f ks ≤ f.bs.length := by
  unfold keepN
  split
  · omega
  · cases ks with
    | nil => simp only; omega
    | cons k r =>
      simp only
      have h1 := Int.emod_lt_of_pos k (show (0 : Int) < ((f.bs.length - f.lasts : Nat) : Int) + 1 by omega)
      omega

/-- A file's last step of a crash: its bytes are cut. -/
structure Near (b V : Nat) (Q : Nat → Prop) (ao : Option Addr) (cap L m : Nat) (ks : List Int) (w w5 : World) : Prop where
  row : w5.heap[b]? = some (.cells #[.slice ao L cap, .int .i64 m] 62 (0, 0))
  oth : ∀ i, i ≠ b → i ≠ V → w5.heap[i]? = w.heap[i]?
  size : w5.heap.size = w.heap.size
  os : w5.os = w.os ∧ w5.tape = w.tape ∧ w5.output = w.output
  var : ∃ v', Var1 w5 V v' ∧ NumV Q w5 v' ks
theorem near_set {b V : Nat} {Q : Nat → Prop} {ao : Option Addr} {cap L A m : Nat} {v' : Value} {ks : List Int} {w W : World} (hW : W.heap[b]? = some (.cells #[.slice ao L cap, .int .i64 A] 62 (0, 0))) (h1 : One V w W) (hV : Var1 W V v') (hk : NumV Q W v' ks) (hbV : b ≠ V) (hQ : ¬ Q b) :
    Near b V Q ao cap L m ks w (W.setCell ⟨b, 1, none⟩ (.int .i64 m)) := by
  have ho : ∀ i, i ≠ b → (W.setCell ⟨b, 1, none⟩ (.int .i64 m)).heap[i]? = W.heap[i]? := fun i hi => heap_setCell_other _ ⟨b, 1, none⟩ i _ hi
  refine ⟨by rw [heap_setCell_same W b 1 _ _ _ hW]; rfl, fun i hi hiV => (ho i hi).trans (h1.block i hiV), by simp [h1.size], ⟨h1.os, h1.tape, h1.output⟩, v', ?_, hk.keep fun i _ hi => ho i (fun e => hQ (by rw [← e]; exact hi))⟩
  obtain ⟨T, hT⟩ := hV
  exact ⟨T, (ho V hbV.symm).trans hT⟩
theorem near_end {b V : Nat} {Q : Nat → Prop} {ao : Option Addr} {cap L m : Nat} {ks : List Int} {w w5 : World} (h : Near b V Q ao cap L m ks w w5) (hbV : b ≠ V) (hQ : ¬ Q b) :
    (w5.setCell ⟨b, 0, none⟩ (.slice ao m cap)).heap[b]? = some (.cells #[.slice ao m cap, .int .i64 m] 62 (0, 0)) ∧ (∀ i, i ≠ b → i ≠ V → (w5.setCell ⟨b, 0, none⟩ (.slice ao m cap)).heap[i]? = w.heap[i]?) ∧ (w5.setCell ⟨b, 0, none⟩ (.slice ao m cap)).heap.size = w.heap.size ∧
      ((w5.setCell ⟨b, 0, none⟩ (.slice ao m cap)).os = w.os ∧ (w5.setCell ⟨b, 0, none⟩ (.slice ao m cap)).tape = w.tape ∧ (w5.setCell ⟨b, 0, none⟩ (.slice ao m cap)).output = w.output) ∧
      ∃ v', Var1 (w5.setCell ⟨b, 0, none⟩ (.slice ao m cap)) V v' ∧ NumV Q (w5.setCell ⟨b, 0, none⟩ (.slice ao m cap)) v' ks := by
  have ho : ∀ i, i ≠ b → (w5.setCell ⟨b, 0, none⟩ (.slice ao m cap)).heap[i]? = w5.heap[i]? := fun i hi => heap_setCell_other _ ⟨b, 0, none⟩ i _ hi
  obtain ⟨v', ⟨T, hT⟩, hk⟩ := h.var
  exact ⟨by rw [heap_setCell_same w5 b 0 _ _ _ h.row]; rfl, fun i hi hiV => (ho i hi).trans (h.oth i hi hiV), by simp [h.size], h.os, v', ⟨T, (ho V hbV.symm).trans hT⟩, hk.keep fun i _ hi => ho i (fun e => hQ (by rw [← e]; exact hi))⟩
theorem keepN_none (f : Fl) (h : f.bs.length ≠ f.lasts) : keepN f [] = f.bs.length - f.lasts := by unfold keepN; rw [if_neg h]
theorem keepN_some (f : Fl) (k : Int) (r : List Int) (h : f.bs.length ≠ f.lasts) : keepN f (k :: r) = (k % ((f.bs.length - f.lasts : Nat) + 1 : Int)).toNat := by unfold keepN; rw [if_neg h]

set_option maxHeartbeats 400000 in
set_option maxRecDepth 8000 in
theorem crash_file (b V : Nat) (Q : Nat → Prop) (ao : Option Addr) (cap : Nat) (f : Fl) (v : Value) (ks : List Int) (w : World) (hb : w.heap[b]? = some (.cells #[.slice ao f.bs.length cap, .int .i64 f.lasts] 62 (0, 0))) (hc : f.bs.length ≤ cap) (hcm : cap ≤ maxLen) (hn : ao = none → f.bs.length = 0 ∧ cap = 0)
    (hao : ∀ x, ao = some x → x.spot = none) (hl : f.bs.length ≤ 250000) (hla : f.lasts ≤ f.bs.length) (hV : Var1 w V v) (hk : NumV Q w v ks) (hbV : b ≠ V) (hQ : ¬ Q b) (hQV : ¬ Q V) :
    Calls Try.prog 33 #[.pointer (some ⟨b, 0, none⟩), .pointer (some ⟨V, 0, none⟩)] w fun e w' => e = .returned (.tuple #[]) ∧
      w'.heap[b]? = some (.cells #[.slice ao (f.lasts + keepN f ks) cap, .int .i64 (f.lasts + keepN f ks : Nat)] 62 (0, 0)) ∧ (∀ i, i ≠ b → i ≠ V → w'.heap[i]? = w.heap[i]?) ∧ w'.heap.size = w.heap.size ∧ (w'.os = w.os ∧ w'.tape = w.tape ∧ w'.output = w.output) ∧
      ∃ v', Var1 w' V v' ∧ NumV Q w' v' (restK f ks) := by
  have HV := hide hV
  have HK := hide hk
  have HB := hide hb
  have hKL := hide (keepN_le f ks hla)
  have c0 := cell_of (i := 0) hb rfl
  have c1 := cell_of (i := 1) hb rfl
  simp at c0 c1
  clear hV hk hb
  obtain ⟨L, hL⟩ : ∃ L, f.bs.length = L := ⟨_, rfl⟩
  obtain ⟨A, hA⟩ : ∃ A, f.lasts = A := ⟨_, rfl⟩
  have HL := hide hL
  have HA := hide hA
  rw [hL] at c0 hc hn hl hla
  rw [hA] at c1 hla
  clear hL hA
  have HB' := hide (show w.heap[b]? = some (.cells #[.slice ao L cap, .int .i64 A] 62 (0, 0)) by rw [← HL.out, ← HA.out]; exact HB.out)
  have f0 := frozen_of_row w b 0 _ _ HB'.out
  have f1 := frozen_of_row w b 1 _ _ HB'.out
  by_cases h0 : L = A
  · subst h0
    go_enter Try.func33, Try.ntmps33
    go_wp2
    go_quiet (fail)
    have hK0 : keepN f ks = 0 := by unfold keepN; rw [if_pos (by rw [HL.out, HA.out])]
    have hR0 : restK f ks = ks := by unfold restK; rw [if_pos (by rw [HL.out, HA.out])]
    have NE := hide (near_set (m := L) (W := w.drewN nq) HB'.out (⟨rfl, rfl, rfl, rfl, fun _ _ => rfl⟩ : One V w (w.drewN nq)) HV.out HK.out hbV hQ)
    have HK0 := hide hK0
    have HR0 := hide hR0
    clear hK0 hR0
    go_wp2
    generalize (w.drewN nq).setCell ⟨b, 1, none⟩ (.int .i64 L) = w5 at *
    have d0 := cell_of (i := 0) NE.out.row rfl
    have d1 := cell_of (i := 1) NE.out.row rfl
    have e0 := frozen_of_row w5 b 0 _ _ NE.out.row
    simp at d0 d1
    cases ao with
    | none =>
      obtain ⟨rfl, rfl⟩ := hn rfl
      go_region
      go_end0
      rw [HK0.out, HR0.out, HA.out]
      exact ⟨rfl, near_end NE.out hbV hQ⟩
    | some x =>
      obtain ⟨xb, xo, xs⟩ := x
      obtain rfl : xs = none := hao _ rfl
      go_region
      go_end0
      rw [HK0.out, HR0.out, HA.out]
      exact ⟨rfl, near_end NE.out hbV hQ⟩
  · have hpos : (0 : Int) < (L : Int) - (A : Int) := by omega
    have hL0 : ¬ L = 0 := by omega
    have hdiff : f.bs.length ≠ f.lasts := by rw [HL.out, HA.out]; exact h0
    have HDf := hide hdiff
    clear hdiff
    cases ks with
    | nil =>
      have NX := hide (fun n => next_any Q V v [] (w.drewN n) HV.out HK.out)
      have hsum : (A : Int) + ((L : Int) - (A : Int)) = (L : Int) := by omega
      go_enter Try.func33, Try.ntmps33
      go_wp2
      go_quiet (fail)
      go_wp2_with fail
      refine (NX.out nq).mono ?_
      rintro e w1 ⟨rfl, O1, v1, V1, N1⟩
      have HR1 := hide (show w1.heap[b]? = _ from (O1.block b hbV).trans HB'.out)
      have k1 := cell_of (i := 1) HR1.out rfl
      simp at k1
      have g1 := frozen_of_row w1 b 1 _ _ HR1.out
      have NE := hide (near_set (m := L) HR1.out (⟨O1.os, O1.tape, O1.output, O1.size, O1.block⟩ : One V w w1) V1 N1 hbV hQ)
      have HK0 := hide (show f.lasts + keepN f [] = L by rw [keepN_none f HDf.out, HL.out, HA.out]; omega)
      have HR0 := hide (show restK f [] = [].tail by unfold restK; rw [if_neg HDf.out])
      clear O1 V1 N1
      go_wp2
      generalize (w1).setCell ⟨b, 1, none⟩ (.int .i64 L) = w5 at *
      have d0 := cell_of (i := 0) NE.out.row rfl
      have d1 := cell_of (i := 1) NE.out.row rfl
      have e0 := frozen_of_row w5 b 0 _ _ NE.out.row
      simp at d0 d1
      cases ao with
      | none => exact absurd (hn rfl).1 hL0
      | some x =>
        obtain ⟨xb, xo, xs⟩ := x
        obtain rfl : xs = none := hao _ rfl
        go_region
        go_end0
        rw [HK0.out, HR0.out]
        exact ⟨rfl, near_end NE.out hbV hQ⟩
    | cons k r =>
      obtain ⟨m, hm⟩ : ∃ m : Nat, k % ((L : Int) - (A : Int) + 1) = m := by
        have := Int.emod_nonneg k (show (L : Int) - (A : Int) + 1 ≠ 0 by omega)
        exact ⟨_, (Int.toNat_of_nonneg this).symm⟩
      have hml := Int.emod_lt_of_pos k (show (0 : Int) < (L : Int) - (A : Int) + 1 by omega)
      rw [hm] at hml
      have NX := hide (fun n => next_any Q V v (k :: r) (w.drewN n) HV.out HK.out)
      have hkw : (Lit.int .i64 k).wf = true := by obtain ⟨_, _, _, _, _, h4, _⟩ := HK.out; exact h4 k List.mem_cons_self
      have MO := hide (fun W => modulo_any k ((L : Int) - (A : Int) + 1) W (by omega) (by omega) hkw)
      have HM := hide hm
      clear hkw hm
      go_enter Try.func33, Try.ntmps33
      go_wp2
      go_quiet (fail)
      go_wp2_with fail
      refine (NX.out nq).mono ?_
      rintro e w1 ⟨he, O1, v1, V1, N1⟩
      obtain rfl : e = .returned (.tuple #[.int .i64 k, .bool true]) := he
      have HR1 := hide (show w1.heap[b]? = _ from (O1.block b hbV).trans HB'.out)
      have k1 := cell_of (i := 1) HR1.out rfl
      simp at k1
      have g1 := frozen_of_row w1 b 1 _ _ HR1.out
      have NE := hide (show Near b V Q ao cap L (A + m) _ w (w1.setCell ⟨b, 1, none⟩ (.int .i64 ((A : Int) + (m : Int)))) from near_set (m := A + m) HR1.out (⟨O1.os, O1.tape, O1.output, O1.size, O1.block⟩ : One V w w1) V1 N1 hbV hQ)
      have HK0 := hide (show f.lasts + keepN f (k :: r) = A + m by
        rw [keepN_some f k r HDf.out, HL.out, HA.out, show ((L - A : Nat) : Int) + 1 = (L : Int) - (A : Int) + 1 from by omega, HM.out]; simp)
      have HR0 := hide (show restK f (k :: r) = (k :: r).tail by unfold restK; rw [if_neg HDf.out])
      clear O1 V1 N1
      go_wp2_with fail
      refine (MO.out w1).mono ?_
      rintro e w2 ⟨rfl, rfl⟩
      rw [HM.out]
      go_wp2
      generalize (w2).setCell ⟨b, 1, none⟩ (.int .i64 ((A : Int) + (m : Int))) = w5 at *
      have d0 := cell_of (i := 0) NE.out.row rfl
      have d1 := cell_of (i := 1) NE.out.row rfl
      have e0 := frozen_of_row w5 b 0 _ _ NE.out.row
      simp at d0 d1
      cases ao with
      | none => exact absurd (hn rfl).1 hL0
      | some x =>
        obtain ⟨xb, xo, xs⟩ := x
        obtain rfl : xs = none := hao _ rfl
        go_region
        go_end0
        rw [HK0.out, HR0.out]
        exact ⟨rfl, near_end NE.out hbV hQ⟩

end Go.Proofs.Ythmfkfiblaamfab.Clep
