/- What edit.Put does when called (a walk over the translated program): for any Edit. -/
import Derived.Test.YtgopcaemgcnapaaEPutM
import Derived.Test.YtgopcaemgcnapaaFPut
namespace Go.Proofs.Ytgopcaemgcnapaa.Clep
open Go.RowKit
set_option linter.unusedVariables false
set_option maxRecDepth 10000

/-- What Put returns. -/
def PutR (E : Ed) (zs : List Int) (w : World) (e : Ending) (w' : World) : Prop := (if emay E = 0 then ∃ v, e = .returned (.tuple #[v, .int .i64 0]) ∧ Own w' w.heap.size v (zs ++ fr 6 (ebd E)) else e = .returned (.tuple #[.slice none 0 0, .int .i64 1])) ∧ Below w.heap.size w w'
set_option maxHeartbeats 1000000 in
theorem eput_any (a0 : Option Addr) (n0 c0 : Nat) (zs : List Int) (da : Option Addr) (dn dc : Nat) (aa : Option Addr) (an ac : Nat) (E : Ed) (w : World) (h0 : Bs w a0 n0 c0 zs) (hn0 : n0 ≤ 1000000) (hd : Zs w da dn dc E.d) (ha : Fs w aa an ac E.a) (hdn : dn ≤ 9223372036854775807) (han : an ≤ 9223372036854775807) (hu : 0 ≤ E.fl ∧ 0 ≤ E.ct ∧ 0 ≤ E.at9 ∧ 0 ≤ E.ls) :
    Calls Try.prog 10 #[.slice a0 n0 c0, edV da dn dc aa an ac E] w (PutR E zs w) := by
  have HRB := hide (show ∀ W, ¬ emay E = 0 → Below w.heap.size w W → PutR E zs w (.returned (.tuple #[.slice none 0 0, .int .i64 1])) W from fun W h1 h2 => ⟨by rw [if_neg h1], h2⟩)
  have HRG := hide (show ∀ W v, emay E = 0 → Own W w.heap.size v (zs ++ fr 6 (ebd E)) → Below w.heap.size w W → PutR E zs w (.returned (.tuple #[v, .int .i64 0])) W from fun W v h1 h2 h3 => ⟨by rw [if_pos h1]; exact ⟨v, rfl, h2⟩, h3⟩)
  generalize PutR E zs w = RR at *
  have CM := hide (fun W (hW : Below w.heap.size w W) => maybe_any da dn dc aa an ac E W (hd.below hW (Nat.le_refl _)) (ha.below hW (Nat.le_refl _)) hdn han)
  have CB := hide (fun W (hW : Below w.heap.size w W) (hm : emay E = 0) => bodyof_any da dn dc aa an ac E W (hd.below hW (Nat.le_refl _)) (ha.below hW (Nat.le_refl _)) hm hu)
  have HB := hide (fun W (hW : Below w.heap.size w W) => h0.below hW (Nat.le_refl _))
  have HM := hide (mayB_iff E)
  have HL := hide (fun hm : emay E = 0 => ebd_len hm)
  have HBR := hide (fun hm : emay E = 0 => ebd_range hm hu)
  generalize mayB E = M at *
  generalize emay E = m at *
  generalize ebd E = Y at *
  obtain ⟨d, a, lg, fl, ct, at9, ls⟩ := E
  unfold edV
  unfold edV at CM CB
  simp only at CM CB ⊢
  clear hd ha hu h0
  have A0 := (Below.refl w.heap.size w).alloc (Nat.le_refl _) (Obj.cells #[.slice da dn dc, .slice aa an ac, .int .i64 lg, .int .u64 fl, .int .u64 ct, .int .u64 at9, .int .u64 ls] 31)
  have HB0 := hide A0
  have HK := hide (ek_new w #[.slice da dn dc, .slice aa an ac, .int .i64 lg, .int .u64 fl, .int .u64 ct, .int .u64 at9, .int .u64 ls] 31)
  clear A0
  go_enter Try.func10, Try.ntmps10
  go_wp2_with fail
  refine (CM.out _ HB0.out).mono ?_
  rintro e w1 ⟨rfl, hb1⟩
  have HB1 := hide (HB0.out.trans (hb1.mono HB0.out.size))
  have hk := HK.out.below hb1 HK.out.lt
  clear CM hb1 HB0 HK
  cases M with
  | false =>
    have hm : ¬ m = 0 := fun e => by have := HM.out.2 e; cases this
    have HE := hide hm
    clear hk hm CB HM HL HBR
    go_wp2
    exact HRB.out _ HE.out HB1.out
  | true =>
    have hm : m = 0 := HM.out.1 rfl
    have HE := hide hm
    have k0 : w1.cell? ⟨w.heap.size, 0, none⟩ = some (.slice da dn dc) := hk.cell rfl
    have k1 : w1.cell? ⟨w.heap.size, 1, none⟩ = some (.slice aa an ac) := hk.cell rfl
    have k2 : w1.cell? ⟨w.heap.size, 2, none⟩ = some (.int .i64 lg) := hk.cell rfl
    have k3 : w1.cell? ⟨w.heap.size, 3, none⟩ = some (.int .u64 fl) := hk.cell rfl
    have k4 : w1.cell? ⟨w.heap.size, 4, none⟩ = some (.int .u64 ct) := hk.cell rfl
    have k5 : w1.cell? ⟨w.heap.size, 5, none⟩ = some (.int .u64 at9) := hk.cell rfl
    have k6 : w1.cell? ⟨w.heap.size, 6, none⟩ = some (.int .u64 ls) := hk.cell rfl
    have CB1 := hide (CB.out w1 HB1.out hm)
    have hYl := HL.out hm
    have HYR := hide (HBR.out hm)
    clear hk hm CB HM HL HBR
    go_wp2_with fail
    refine CB1.out.mono ?_
    rintro e w2 ⟨v2, rfl, ho2, hb2⟩
    obtain ⟨a2, c2, rfl, _, hbs2, _⟩ := own_bs ho2 (range_of HYR.out)
    obtain ⟨n2, hn2⟩ : ∃ n, Y.length = n := ⟨_, rfl⟩
    rw [hn2] at hbs2 hYl ⊢
    have HB2 := hide (HB1.out.trans (hb2.mono HB1.out.size))
    have CF := hide (fput_any a0 a2 n0 c0 n2 c2 zs Y 6 w2 (by omega) (by omega) (by omega) (by omega) (HB.out w2 HB2.out) hbs2)
    clear CB1 ho2 hb2 hbs2 hn2 k0 k1 k2 k3 k4 k5 k6
    go_wp2_with fail
    refine CF.out.mono ?_
    rintro e w3 ⟨v3, rfl, ho3, hb3⟩
    have HB3 := hide (HB2.out.trans (hb3.mono HB2.out.size))
    have HO3 := hide (own_base9 ho3 HB2.out.size)
    clear CF ho3 hb3
    go_wp2
    exact HRG.out _ v3 HE.out HO3.out HB3.out

end Go.Proofs.Ytgopcaemgcnapaa.Clep
