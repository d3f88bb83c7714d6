/- The Filter and the document's side by side; BloomTells where New refuses. No conditions. -/
import Derived.Test.YtjphnflahpcaiaaBOne
import Derived.Test.YtjphnflahpcaiaaBRefB
import Derived.Test.YtjphnflahpcaiaaBReadW
import Derived.Test.YtjphnflahpcaiaaBRows
import Derived.Deep.RegionHeldLaw
namespace Go.Proofs.Ytjphnflahpcaiaa.Clep
open Go.RowKit
set_option linter.unusedVariables false

theorem rv_bys (N sz : Nat) (h : N < 2 ^ (8 * sz)) : rv (bys N sz) = N := by
  have hr := bys_range N sz
  have h1 := rv_lt (bys N sz) hr
  rw [bys_len] at h1
  refine Nat.eq_of_testBit_eq fun p => ?_
  by_cases hp : p < 8 * sz
  · have hi : p / 8 < sz := by omega
    have e1 := by8_bit (rv (bys N sz)) (p / 8) (p % 8)
    have e2 := by8_bit N (p / 8) (p % 8)
    have e3 := by8_rv (bys N sz) (p / 8) hr (by rw [bys_len]; exact hi)
    rw [bys_get _ _ _ hi] at e3
    have e4 : by8 (rv (bys N sz)) (p / 8) = by8 N (p / 8) := by omega
    rw [e4] at e1
    rw [e1] at e2
    simp only [Nat.mod_lt p (show 0 < 8 by decide), decide_true, Bool.true_and, Nat.div_add_mod p 8] at e2
    exact e2
  · rw [Nat.testBit_lt_two_pow (Nat.lt_of_lt_of_le h1 (Nat.pow_le_pow_right (by decide) (by omega))), Nat.testBit_lt_two_pow (Nat.lt_of_lt_of_le h (Nat.pow_le_pow_right (by decide) (by omega)))]
theorem fr_fb (k sz N : Nat) (hk : 1 ≤ k ∧ k ≤ 14) (hs : 8 ≤ sz ∧ sz ≤ 25000) (hN : N < 2 ^ (8 * sz)) : FrOk (fb k sz N) k sz N := by
  have l1 := pu_len k
  have l2 := pu_len sz
  have e1 : fb k sz N = pu k ++ (pu sz ++ bys N sz) := by unfold fb; rw [List.append_assoc]
  have e2 : (fb k sz N).drop (pu k).length = pu sz ++ bys N sz := by rw [e1, List.drop_left]
  have e3 : (fb k sz N).drop ((pu k).length + (pu sz).length) = bys N sz := by rw [← List.drop_drop, e2, List.drop_left]
  refine ⟨(pu k).length, (pu sz).length, ⟨?_, ?_⟩, by omega, hk, hs, fb_len k sz N, ?_⟩
  · rw [e1]; exact tk_pu k _ (by omega) (by omega)
  · rw [e2]; exact tk_pu sz _ (by omega) (by omega)
  · rw [e3, rv_bys N sz hN]

/-- One of two. -/
def Fg (A B X : Nat) : Prop := X = A ∨ X = B
/-- The Filter and the document's side by side. -/
structure Pr (w W : World) (M R D k sz N : Nat) : Prop where
  one : One w W (fun b => b = R ∨ b = D) M k sz N
  ref : Rw W R D k sz N
  bel : Below w.heap.size w W
  rD : w.heap.size ≤ D
theorem Pr.nu {w W W' : World} {M R D k sz N N' : Nat} (h : Pr w W M R D k sz N) (h1 : One w W' (fun b => b = R ∨ b = D) M k sz N') (hn : Nu w (fun b => b = R ∨ b = D) W W') : One w W' (fun b => b = R ∨ b = D) M k sz N' ∧ Rw W' R D k sz N ∧ Below w.heap.size w W' :=
  ⟨h1, h.ref.ch hn (fun e => e.2 (.inl rfl)) (fun e => e.2 (.inr rfl)), hn.below h.bel⟩
theorem pr_has (w W : World) (M R D k sz N : Nat) (h : Pr w W M R D k sz N) (ao : Option Addr) (len cap : Nat) (zs : List Int) (hm : len ≤ 9223372036854775807) (hz : Bs w ao len cap zs) :
    Calls Try.prog 15 #[.pointer (some ⟨M, 0, none⟩), .slice ao len cap] W fun e W' => e = .returned (.bool (hask (fnv zs) sz k N)) ∧ Pr w W' M R D k sz N :=
  (one_has w W _ M k sz N h.one ao len cap zs hm (hz.below h.bel (Nat.le_refl _)) (key_of hz _)).mono fun e W' ⟨q1, q2, q3⟩ => ⟨q1, (h.nu q2 q3).1, (h.nu q2 q3).2.1, (h.nu q2 q3).2.2, h.rD⟩
theorem pr_add (w W : World) (M R D k sz N : Nat) (h : Pr w W M R D k sz N) (ao : Option Addr) (len cap : Nat) (zs : List Int) (hm : len ≤ 9223372036854775807) (hz : Bs w ao len cap zs) :
    Calls Try.prog 10 #[.pointer (some ⟨M, 0, none⟩), .slice ao len cap] W fun e W' => e = .returned (.tuple #[]) ∧ One w W' (fun b => b = R ∨ b = D) M k sz (addk (fnv zs) sz k N) ∧ Rw W' R D k sz N ∧ Below w.heap.size w W' :=
  (one_add w W _ M k sz N h.one ao len cap zs hm (hz.below h.bel (Nat.le_refl _)) (key_of hz _)).mono fun e W' ⟨q1, q2, q3⟩ => ⟨q1, h.nu q2 q3⟩
theorem pr_radd (w W : World) (M R D k sz N N' : Nat) (h1 : One w W (fun b => b = R ∨ b = D) M k sz N') (h2 : Rw W R D k sz N) (h3 : Below w.heap.size w W) (h4 : w.heap.size ≤ D) (zs : List Int) (hz : ∀ z ∈ zs, 0 ≤ z ∧ z < 256) (hm : zs.length ≤ 9223372036854775807) (hN : N' = addk (fnv zs) sz k N) :
    Calls Try.prog 16 #[.pointer (some ⟨R, 0, none⟩), .string (strOfNums zs)] W fun e W' => e = .returned (.tuple #[]) ∧ Pr w W' M R D k sz N' :=
  (refadd_any W R D k sz N h2 h1.kb h1.sb (strOfNums zs) zs (by rw [str_size]; exact hm) (sz_of zs (range_of hz)) hz).mono fun e W' ⟨q1, q2, q3⟩ => ⟨q1, h1.ch q3 (fun b e => .inl (.inr e)), by rw [hN]; exact q2, h3.trans (q3.below h3.size fun i e => by rw [e]; exact h4), h4⟩
theorem pr_new (w : World) (n b : Nat) (hn : n ≤ 10000) (hb : 1 ≤ b ∧ b ≤ 20) (w1 : World) (M : Nat) (h1 : One w w1 (fun _ => False) M (kOf b) (sOf n b) 0) (hb1 : Below w.heap.size w w1) :
    Calls Try.prog 13 #[.int .i64 n, .int .i64 b] w1 fun e w' => ∃ R, e = .returned (.pointer (some ⟨R, 0, none⟩)) ∧ ∃ D, Pr w w' M R D (kOf b) (sOf n b) 0 := by
  refine (refnew_ok n b w1 hn hb).mono fun e w2 ⟨R, q1, D, q2, q3, q4, q5⟩ => ⟨R, q1, D, ?_, q2, bmore hb1 q3, Nat.le_trans hb1.size q5⟩
  refine One.more h1 w2 q3 fun b e => ?_
  have l1 := q2.head.lt
  have l2 := q2.bits.lt
  rcases e with rfl | rfl
  · exact .inr ⟨q4, l1⟩
  · exact .inr ⟨q5, l2⟩

set_option maxRecDepth 100000 in
set_option maxHeartbeats 1600000 in
theorem tells_bad (n b : Int) (a2 : Option Addr) (len2 cap2 : Nat) (a3 : Option Addr) (len3 cap3 : Nat) (w : World) (hok : szOk n b = false) :
    Calls Try.prog 5 #[.int .i64 n, .int .i64 b, .slice a2 len2 cap2, .slice a3 len3 cap3] w fun e w' => e = .returned (.bool true) ∧ Below w.heap.size w w' := by
  have C1 := hide (new_bad n b w hok)
  have C2 := hide (refnew_bad n b w hok)
  clear hok
  go_enter Try.func5, Try.ntmps5
  go_wp2_with fail
  refine C1.out.mono ?_
  rintro e w1 ⟨rfl, rfl⟩
  go_wp2_with fail
  refine C2.out.mono ?_
  rintro e w2 ⟨rfl, rfl⟩
  clear C1 C2
  go_wp2_with fail
  refine (awake_any w2).mono ?_
  rintro e w3 ⟨rfl, hb⟩
  have HB := hide hb
  clear hb
  go_wp2
  go_ret
  exact ⟨rfl, HB.out⟩

end Go.Proofs.Ytjphnflahpcaiaa.Clep
