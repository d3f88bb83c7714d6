/- What the document's own Filter.Bytes does when called. No conditions but the kinds' bounds. -/
import Derived.Test.YtjphnflahpcaiaaBRefW
import Derived.Test.YtjphnflahpcaiaaNRefPut
import Derived.Deep.RegionHeldLaw
namespace Go.Proofs.Ytjphnflahpcaiaa.Clep
open Go.RowKit
set_option linter.unusedVariables false

/-- The text of a number. -/
def Nm (x : Int) (S : ByteArray) : Prop := S = strOfNums (pu x) ∧ 0 ≤ x ∧ x ≤ 18446744073709551615
set_option maxRecDepth 100000 in
set_option maxHeartbeats 800000 in
theorem refbytes_any (w : World) (R cap k sz N : Nat) (ao : Option Addr) (h : Rf w R ao cap k sz N) (hk : 1 ≤ k ∧ k ≤ 14) (hsz : 8 ≤ sz ∧ sz ≤ 25000) :
    Calls Try.prog 14 #[.pointer (some ⟨R, 0, none⟩)] w fun e w' => e = .returned (.string (strOfNums (fb k sz N))) ∧ Below w.heap.size w w' := by
  have hl1 := pu_len k
  have hl2 := pu_len sz
  have a1 : ∀ W : World, (Op.stringOp .add (strOfNums (pu k)) (strOfNums (pu sz))).run Try.prog W = .ok (.string (strOfNums (pu k ++ pu sz))) W := fun W => by
    rw [← str_app]
    exact run_string_add_sum W _ _ (by rw [str_size, str_size]; omega)
  have a2 : ∀ W : World, (Op.stringOp .add (strOfNums (pu k ++ pu sz)) (strOfNums (bys N sz))).run Try.prog W = .ok (.string (strOfNums (fb k sz N))) W := fun W => by
    unfold fb
    rw [← str_app (pu k ++ pu sz)]
    exact run_string_add_sum W _ _ (by rw [str_size, str_size, List.length_append, bys_len]; omega)
  have z1 : (strOfNums (pu k)).size ≤ 10 := by rw [str_size]; omega
  have z2 : (strOfNums (pu sz)).size ≤ 10 := by rw [str_size]; omega
  have z3 : (strOfNums (pu k ++ pu sz)).size ≤ 20 := by rw [str_size, List.length_append]; omega
  have z4 : (strOfNums (bys N sz)).size ≤ 25000 := by rw [str_size, bys_len]; omega
  have hcap := h.bits.2.1.1
  have HC : Hid (∀ W, Below w.heap.size w W → Below w.heap.size w W ∧ W.cell? ⟨R, 0, none⟩ = some (.int .i64 k) ∧ W.cell? ⟨R, 1, none⟩ = some (.slice ao sz cap) ∧ (convert 27 9 (.slice ao sz cap)).run Try.prog W = .ok (.string (strOfNums (bys N sz))) W) := hide fun W hW =>
    ⟨hW, (h.keep hW).head.cell rfl, (h.keep hW).head.cell rfl, conv_bs (h.keep hW).bits⟩
  have c0 : w.cell? ⟨R, 0, none⟩ = some (.int .i64 k) := h.head.cell rfl
  have c1 : w.cell? ⟨R, 1, none⟩ = some (.slice ao sz cap) := h.head.cell rfl
  have hb0 : Below w.heap.size w w := Below.refl _ _
  clear h hl1 hl2
  generalize strOfNums (fb k sz N) = S4 at *
  generalize strOfNums (bys N sz) = S3 at *
  generalize strOfNums (pu k ++ pu sz) = S2 at *
  obtain ⟨S0, hS0⟩ : ∃ S, strOfNums (pu k) = S := ⟨_, rfl⟩
  obtain ⟨S1, hS1⟩ : ∃ S, strOfNums (pu sz) = S := ⟨_, rfl⟩
  rw [hS0] at a1 z1
  rw [hS1] at a1 z2
  have HS0 := hide hS0
  have HS1 := hide hS1
  clear hS0 hS1
  have cK : Hid (∀ (p : Kp w) (x : Int) (S : ByteArray), Nm x S → Calls Try.prog 26 #[.int .u64 x] p.W fun e w'' => e = .returned (.string S) ∧ ∃ q : Kp w, w'' = q.W) := hide fun p x S hx => kp_call (by rw [hx.1]; exact refnum_any p.W x hx.2.1 hx.2.2)
  have n1 : Nm (k : Int) S0 := ⟨HS0.out.symm, by omega, by omega⟩
  have n2 : Nm (sz : Int) S1 := ⟨HS1.out.symm, by omega, by omega⟩
  have p0 : ∀ p : Kp w, p.W.cell? ⟨R, 0, none⟩ = some (.int .i64 k) := fun p => (HC.out p.W p.h).2.1
  have p1 : ∀ p : Kp w, p.W.cell? ⟨R, 1, none⟩ = some (.slice ao sz cap) := fun p => (HC.out p.W p.h).2.2.1
  have p2 : ∀ p : Kp w, (convert 27 9 (.slice ao sz cap)).run Try.prog p.W = .ok (.string S3) p.W := fun p => (HC.out p.W p.h).2.2.2
  have hne : Nonempty (Kp w) := ⟨⟨w, Below.refl _ _⟩⟩
  clear HS0 HS1 c0 c1 HC
  go_enter Try.func14, Try.ntmps14
  go_wp2_with fail
  refine wp_region_kept (by kernel_rfl) (by kernel_rfl) ?_
  repeat (first | go_big_quiet_step (first | (go_at_call 26; exact cK.out _ _ _ (by assumption))) | fail)
  refine wpQuiet_nil ?_
  intro w3 hw'
  have HB : Hid (Below w.heap.size w w3) := by
    obtain ⟨⟨w3', hb3⟩, hw''⟩ := hw'
    rw [hw'']; exact hide hb3
  clear hw' p0 p1 p2 hne cK n1 n2
  go_wp2
  go_ret
  exact ⟨rfl, HB.out⟩

end Go.Proofs.Ytjphnflahpcaiaa.Clep
