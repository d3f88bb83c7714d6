/- What the statements with loops share: masks, texts joined and cut, one step of Bytes and Append. No conditions but the bounds. -/
import Derived.Test.YthmfkfiblaamfabDBytes
namespace Go.Proofs.Ythmfkfiblaamfab.Clep
open Go.RowKit Go.Maps
set_option linter.unusedVariables false

theorem andm (a : Int) (m : Nat) (hm : m < 4611686018427387904) : ∃ n : Nat, bits .and .i64 a m = n ∧ n ≤ m := by
  have e : bits .and .i64 a m = IntKind.i64.wrap ((BitVec.ofInt 64 a &&& BitVec.ofInt 64 m).toNat : Int) := rfl
  have hle : (BitVec.ofInt 64 a &&& BitVec.ofInt 64 m).toNat ≤ m := by
    rw [BitVec.toNat_and]
    refine Nat.le_trans Nat.and_le_right ?_
    simp
    omega
  rw [e]
  generalize (BitVec.ofInt 64 a &&& BitVec.ofInt 64 m).toNat = k at *
  refine ⟨k, ?_, hle⟩
  simp [IntKind.wrap, IntKind.bits, IntKind.signed]
  omega
theorem str_join (a b : List Int) : strOfNums a ++ strOfNums b = strOfNums (a ++ b) := by
  apply ByteArray.ext
  simp [strOfNums, ByteArray.data_append]
theorem bytes_h {F : Nat → Prop} {R : Nat} {S : St} {w : World} (n : Int) (L : Nat) (h : Held F w R S) (hL : L ≤ 1099511627776) (hn : -1152921504606846976 ≤ n ∧ n ≤ 1152921504606846976) :
    Calls Try.prog 11 #[.int .i64 n, .int .i64 L] w fun e w' => e = .returned (.string (strOfNums (byt n L))) ∧ Held F w' R S ∧ Same F w w' := by
  refine (bytes_any n L w hL hn).mono ?_
  rintro e w' ⟨rfl, hb⟩
  exact ⟨rfl, h.same hb⟩
/-- A text's bytes are appended. -/
theorem step_append {F : Nat → Prop} {R : Nat} {S : St} {w : World} (s : ByteArray) (zs : List Int) (hz : ∀ z ∈ zs, 0 ≤ z ∧ z < 256) {E : Nat} {S' : St} (e : appendS S s zs = (E, S')) (h : Held F w R S) (hm : S.calls < 1099511627776) (hs : s.size ≤ 70368744177664) (hl : zs.length ≤ 1099511627776) (hF : ∀ i, F i → i < w.heap.size) :
    ∃ cap w', (convert 9 31 (.string (strOfNums zs))).run Try.prog w = .ok (.slice (some ⟨w.heap.size, 0, none⟩) zs.length cap) w' ∧
      Hid (Calls Try.prog 12 #[.pointer (some ⟨R, 0, none⟩), .string s, .slice (some ⟨w.heap.size, 0, none⟩) zs.length cap] w' fun e w'' => e = .returned (.int .i64 E) ∧ Held F w'' R S' ∧ Same F w w'') := by
  obtain ⟨cap, w', hcv, _, hb, hB, _, hlt⟩ := str_bytes w zs hz
  refine ⟨cap, w', hcv, hide ?_⟩
  refine (append_h s _ _ cap zs e (h.wide hb.out) hm hs hB.out (by omega) (fun b off ho => by cases ho; exact .inr ⟨Nat.le_refl _, hlt.out⟩)).mono ?_
  rintro e w'' ⟨rfl, H, Sm⟩
  have hs' : Same F w w' := ⟨hb.out.os, hb.out.tape, hb.out.output, hb.out.size, fun i hi => hb.out.block i (hF i hi)⟩
  exact ⟨rfl, H.less (fun i hi => .inl hi), hs'.trans (Sm.mono (fun i hi => .inl hi))⟩
theorem NumV.at {Q : Nat → Prop} {w : World} {ao : Option Addr} {len cap : Nat} {ks : List Int} (h : NumV Q w (.slice ao len cap) ks) : ks.length = len ∧ ∀ i, i < len → ∃ b off, ao = some ⟨b, off, none⟩ ∧ Q b ∧ w.cell? ⟨b, off + i, none⟩ = some (.int .i64 (ks.getD i 0)) ∧ len ≤ 9223372036854775807 := by
  obtain ⟨ao', cap', e, h1, h2, h3, h4⟩ := h
  injection e with e1 e2 e3
  subst e1 e3
  refine ⟨e2.symm, fun i hi => ?_⟩
  obtain ⟨b, off, e1, q, hc⟩ := h4 (by omega)
  exact ⟨b, off, e1, q, hc i (by omega), by omega⟩
def bF : ByteArray := ⟨#[102]⟩
def nF : Lit := .string [102]
def ls1 (c : Nat) (A : List Int) : St := ⟨1048576, c, 0, 0, false, 1, [⟨1, A, 0⟩], .map [(nF, i64L 1)], .map [], [⟨0, bF, ⟨#[]⟩, 1⟩]⟩
def ls2 (c : Nat) (A : List Int) : St := ⟨1048576, c, 0, 0, false, 1, [⟨1, A, A.length⟩], .map [(nF, i64L 1)], .map [], [⟨0, bF, ⟨#[]⟩, 1⟩]⟩
def lsg (c : Nat) (X : List Int) (L : Nat) : St := ⟨1048576, c, 0, 0, false, 1, [⟨1, X, L⟩], .map [(nF, i64L 1)], .map [(nF, i64L 1)], []⟩
theorem last1 : createS (newS 1048576) bF = (0, ls1 1 []) := by kernel_rfl
theorem last2 (c : Nat) (A p : List Int) (h : A.length + p.length ≤ 250000) : appendS (ls1 c A) bF p = (0, ls1 (c + 1) (A ++ p)) := by
  have e : appendS (ls1 c A) bF p = if 250000 < A.length + p.length then (2, (beginS (ls1 c A)).2) else if 1048576 < A.length + 0 + p.length then (15, (beginS (ls1 c A)).2) else (0, ls1 (c + 1) (A ++ p)) := by kernel_rfl
  rw [e, if_neg (by omega), if_neg (by omega)]
theorem last3 (c : Nat) (A : List Int) : syncS (ls1 c A) bF = (0, ls2 (c + 1) A) := by kernel_rfl
theorem last4 (c : Nat) (A : List Int) : syncDirS (ls2 c A) = (0, lsg (c + 1) A A.length) := by kernel_rfl
theorem last5 (c L : Nat) (X p : List Int) (h : X.length + p.length ≤ 250000) : appendS (lsg c X L) bF p = (0, lsg (c + 1) (X ++ p) L) := by
  have e : appendS (lsg c X L) bF p = if 250000 < X.length + p.length then (2, (beginS (lsg c X L)).2) else if 1048576 < X.length + 0 + p.length then (15, (beginS (lsg c X L)).2) else (0, lsg (c + 1) (X ++ p) L) := by kernel_rfl
  rw [e, if_neg (by omega), if_neg (by omega)]
theorem last6 (c L : Nat) (X : List Int) (ks : List Int) : crashS (lsg c X L) ks = lsg c (X.take (L + keepN ⟨1, X, L⟩ ks)) (L + keepN ⟨1, X, L⟩ ks) := by kernel_rfl
theorem last7 (c L : Nat) (X : List Int) : readS (lsg c X L) bF = (0, X) := by kernel_rfl
theorem last8 (c L : Nat) (X : List Int) : (if (lsg c X L).dead then 0 else usedS (lsg c X L) : Nat) = X.length := by
  show X.length + 0 = _
  rfl

end Go.Proofs.Ythmfkfiblaamfab.Clep
