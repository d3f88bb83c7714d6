/- What the tally of a level's items does when called (walks over the translated program): add, above, items. Conditions: at most 1,000 files, each of 0 to 1,000,000 items. -/
import Derived.Test.YtcbphalhjajapaaHOnW
namespace Go.Proofs.Ytcbphalhjajapaa.Clep
open Go.RowKit
set_option linter.unusedVariables false
set_option linter.unusedSimpArgs false

theorem add64_small (x y : Int) (w : World) (hx : 0 ≤ x) (hy : 0 ≤ y) (hs : x + y < 18446744073709551616) :
    (callFunc 63 #[.int .u64 x, .int .u64 y, .int .u64 0]).run Try.prog w = .ok (.value (.tuple #[.int .u64 (x + y), .int .u64 0])) w := by
  rw [run_callFunc_extern Try.func63 (by kernel_rfl) (by kernel_rfl) (by kernel_rfl) (e := add64Entry) (by kernel_rfl), run_add64 x y 0 hx hy (by omega) (by omega)]
  simp only [Result.andThen]
  rw [show (x + y + 0) % 18446744073709551616 = x + y by omega, show (x + y + 0) / 18446744073709551616 = 0 by omega]
theorem tadd_any (T : Nat) (s n : Int) (w : World) (h : Ek w T #[.int .u64 0, .int .u64 s] 78) (h0 : 0 ≤ s) (h1 : s ≤ 1000000000) (h2 : 0 ≤ n) (h3 : n ≤ 1000000) :
    Calls Try.prog 54 #[.pointer (some ⟨T, 0, none⟩), .int .i64 n] w fun e w' => e = .returned (.tuple #[]) ∧ Ek w' T #[.int .u64 0, .int .u64 (s + n)] 78 ∧ w.grownBy w' (some T) := by
  have a1 := add64_small s n w h0 h2 (by omega)
  have a2 := add64_small 0 0 w (by omega) (by omega) (by omega)
  have c0 : w.cell? ⟨T, 0, none⟩ = some (.int .u64 0) := h.cell rfl
  have c1 : w.cell? ⟨T, 1, none⟩ = some (.int .u64 s) := h.cell rfl
  have f0 := h.free 0
  have f1 := h.free 1
  have HW := hide (show Ek ((w.setCell ⟨T, 0, none⟩ (.int .u64 0)).setCell ⟨T, 1, none⟩ (.int .u64 (s + n))) T #[.int .u64 0, .int .u64 (s + n)] 78 ∧ w.grownBy ((w.setCell ⟨T, 0, none⟩ (.int .u64 0)).setCell ⟨T, 1, none⟩ (.int .u64 (s + n))) (some T) from ⟨(h.set 0 _).set 1 _, (fgb_set w ⟨T, 0, none⟩ _).trans (fgb_set _ ⟨T, 1, none⟩ _)⟩)
  have hw1 : IntKind.u64.wrap n = n := by simp [IntKind.wrap, IntKind.bits, IntKind.signed]; omega
  have hq1 : n / 9223372036854775808 = 0 := by omega
  clear h
  go_enter Try.func54, Try.ntmps54
  go_wp2
  go_end0
  exact ⟨rfl, HW.out⟩
set_option maxRecDepth 100000 in
theorem above_any (s m : Int) (w : World) : Calls Try.prog 37 #[.agg #[.int .u64 0, .int .u64 s], .int .u64 m] w fun e w' => e = .returned (.bool (decide (m < s))) ∧ Below w.heap.size w w' := by
  have HB := hide ((Below.refl w.heap.size w).alloc (Nat.le_refl _) (Obj.cells #[.int .u64 0, .int .u64 s] 78))
  go_enter Try.func37, Try.ntmps37
  go_wp2
  go_ret
  exact ⟨rfl, HB.out⟩
theorem items_results {w : World} {R : Nat} {A B : Int} (h : Ek w R #[.int .u64 A, .int .u64 B] 78) (ts : Array Value) (h2 : ts.getD 4 undef = .pointer (some ⟨R, 0, none⟩)) :
    (results Try.f36 ts).run Try.prog w = .ok (.agg #[.int .u64 A, .int .u64 B]) w := by
  have c0 := h.cell (o := 0) rfl
  have c1 := h.cell (o := 1) rfl
  rw [Array.getD_eq_getD_getElem?] at h2
  simp [results, Try.results36, go_sem, c0, c1, h2]
set_option maxRecDepth 100000 in
set_option maxHeartbeats 1000000 in
theorem items_any (b S : Nat) (a : Option Addr) (n c : Nat) (l : List He) (ps : Nat → Value) (k : Nat) (w : World) (hk : k < 4) (h : Lk w b (.slice a n c) l ps) (hl : l.length = n) (hm : Mild l) (hSw : S ≤ w.heap.size) (hF : Hid (∀ W, Below S w W → Hs W a n c l)) :
    Calls Try.prog 36 #[.pointer (some ⟨b, 0, none⟩), .int .i64 (k : Int)] w fun e w' => e = .returned (.agg #[.int .u64 0, .int .u64 (sumM l k)]) ∧ Below w.heap.size w w' := by
  have A1 := ((Below.refl w.heap.size w).alloc (Nat.le_refl _) (Obj.cells #[.int .u64 0, .int .u64 0] 78)).alloc (by simp) (Obj.cells #[.int .u64 0, .int .u64 0] 78)
  have e0 := ek_old (ek_new w #[.int .u64 0, .int .u64 0] 78) (Obj.cells #[.int .u64 0, .int .u64 0] 78)
  have e1 := ek_new (w.alloc (Obj.cells #[.int .u64 0, .int .u64 0] 78)) #[.int .u64 0, .int .u64 0] 78
  rw [show (w.alloc (Obj.cells #[.int .u64 0, .int .u64 0] 78)).heap.size = w.heap.size + 1 by simp] at e1
  have HSZ := hide (show ((w.alloc (Obj.cells #[.int .u64 0, .int .u64 0] 78)).alloc (Obj.cells #[.int .u64 0, .int .u64 0] 78)).heap.size = w.heap.size + 2 by simp)
  have HA := hide A1
  have E0 := hide e0
  have E1 := hide e1
  have HD := hide (on_done b _ l ps k _ hk (h.keep A1))
  have HKK := hide hk
  have HL := hide hl
  obtain ⟨N, hN⟩ : ∃ N, (pos l k).length = N := ⟨_, rfl⟩
  obtain ⟨ao, cap, hps, hcap, hzs⟩ := h.z k hk
  rw [hN] at hps hzs
  rw [hps] at HD
  have HZ := hide (fun W (hW : Below w.heap.size w W) => hzs.below hW (Nat.le_refl _))
  have HBC := hide (show ∀ W, Below w.heap.size w W → W.cell? ⟨b, 0, none⟩ = some (.slice a n c) from fun W hW => (h.e.below hW h.e.lt).cell (o := 0) rfl)
  have HN := hide hN
  have HSB := hide hSw
  have hNle : N ≤ 1000 := by
    have := posN_len l k l.length
    have := hm.1
    unfold pos at hN
    omega
  have HSM := hide (show ∀ i, 0 ≤ sumP l ((pos l k).take i) ∧ sumP l ((pos l k).take i) ≤ 1000000000 from fun i => by
    have := sumP_range hm ((pos l k).take i)
    rw [List.length_take, hN] at this
    omega)
  have HML := hide (show ∀ i, 0 ≤ ml l i ∧ ml l i ≤ 1000000 from mild_ml hm)
  clear A1 e0 e1 h hm hk hl hN hzs hps
  go_enter Try.func36, Try.ntmps36
  go_wp2_with fail
  generalize (w.alloc (Obj.cells #[.int .u64 0, .int .u64 0] 78)).alloc (Obj.cells #[.int .u64 0, .int .u64 0] 78) = wa at *
  refine HD.out.mono ?_
  rintro e w1 ⟨rfl, hb1⟩
  have ST := hide (show Below w.heap.size w w1 ∧ Ek w1 w.heap.size #[.int .u64 0, .int .u64 0] 78 ∧ Ek w1 (w.heap.size + 1) #[.int .u64 0, .int .u64 (sumP l ((pos l k).take 0))] 78 from
    ⟨HA.out.trans (hb1.mono HA.out.size), E0.out.below hb1 E0.out.lt, E1.out.below hb1 E1.out.lt⟩)
  clear hb1 HD HA E0 E1
  go_wp2_with fail
  go_loopw [12] (fun t wr => ∃ i : Nat, i ≤ N ∧ t = .int .i64 i ∧ Hid (Below w.heap.size w wr ∧ Ek wr w.heap.size #[.int .u64 0, .int .u64 0] 78 ∧ Ek wr (w.heap.size + 1) #[.int .u64 0, .int .u64 (sumP l ((pos l k).take i))] 78)) (fun t _ => N - (intOf t).toNat)
  case atStart => exact ⟨0, by omega, rfl, ST⟩
  case round =>
    obtain ⟨i, hi, rfl, hst⟩ := hrel
    have hq : Hid (Below w.heap.size w _) := hide hst.out.1
    by_cases hlt : i < N
    · obtain ⟨z, zb, zo, hz, rfl, hzc, _, _⟩ := zs_at (HZ.out _ hq.out) i hlt
      have hil : i < (pos l k).length := by rw [HN.out]; exact hlt
      obtain ⟨p, hp⟩ : ∃ p, (pos l k)[i] = p := ⟨_, rfl⟩
      have hzp : z = (p : Int) := by
        have : (zn (pos l k))[i]? = some (p : Int) := by simp [zn, hil, hp]
        rw [this] at hz
        exact (Option.some.inj hz).symm
      subst hzp
      have hpm : p ∈ pos l k := by rw [← hp]; exact List.getElem_mem hil
      have hpn : p < n := by have := pos_lt hpm; rw [HL.out] at this; exact this
      obtain ⟨x, ab, off, hx, rfl, hok, x0, x1, x2, x3, x4⟩ := hs_at (hF.out _ (hq.out.mono HSB.out)) p hpn
      have HMX := hide (ml_of hx)
      have hT := hide (show (pos l k).take (i + 1) = (pos l k).take i ++ [p] from by rw [List.take_add_one, List.getElem?_eq_getElem hil, hp]; rfl)
      have c0 := HBC.out _ hq.out
      have hqi : (i : Int) < (N : Int) := by omega
      have hqp : (p : Int) < (n : Int) := by omega
      have HTA := hide (tadd_any (w.heap.size + 1) (sumP l ((pos l k).take i)) x.M _ hst.out.2.2 (HSM.out i).1 (HSM.out i).2 (by rw [← HMX.out]; exact (HML.out p).1) (by rw [← HMX.out]; exact (HML.out p).2))
      generalize x.M = M at *
      clear hz hp hx hok hpm
      go_wp2_with fail
      refine HTA.out.mono ?_
      rintro e w3 ⟨rfl, he3, hg3⟩
      have ST3 := hide (show Below w.heap.size w w3 ∧ Ek w3 w.heap.size #[.int .u64 0, .int .u64 0] 78 ∧ Ek w3 (w.heap.size + 1) #[.int .u64 0, .int .u64 (sumP l ((pos l k).take (i + 1)))] 78 from
        ⟨hq.out.grown hg3 hq.out.size (fun q hq => by cases hq; omega), hst.out.2.1.gb hg3 (by simp), by rw [hT.out, sumP_snoc, HMX.out]; exact he3⟩)
      clear he3 hg3 HTA c0 x0 x1 x2 x3 x4 hzc
      go_wp2
      go_roundw
      case rel => exact ⟨i + 1, by omega, by go_num, ST3⟩
      case measure => simp [intOf]; omega
    · obtain rfl : i = N := by omega
      have hqi : ¬ ((i : Int) < (i : Int)) := by omega
      have hfull : (pos l k).take i = pos l k := List.take_of_length_le (by rw [HN.out]; exact Nat.le_refl _)
      have HE := hide hst.out.2.2
      rw [hfull] at HE
      have HR := hide hst.out.2.1
      have e0 := HE.out.cell (o := 0) rfl
      have e1 := HE.out.cell (o := 1) rfl
      have r0 := HR.out.cell (o := 0) rfl
      have r1 := HR.out.cell (o := 1) rfl
      have r2 := HR.out.free 0
      have r3 := HR.out.free 1
      clear hst
      go_wp2
      refine bodyPost_ret (items_results ((HR.out.set 0 _).set 1 _) _ rfl) rfl ?_
      exact ⟨rfl, hq.out.grown ((fgb_set _ ⟨w.heap.size, 0, none⟩ _).trans (fgb_set _ ⟨w.heap.size, 1, none⟩ _)) hq.out.size (fun q hq => by cases hq; exact Nat.le_refl _)⟩

end Go.Proofs.Ytcbphalhjajapaa.Clep
