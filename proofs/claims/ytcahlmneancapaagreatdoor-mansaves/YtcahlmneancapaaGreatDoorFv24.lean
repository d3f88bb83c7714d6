/- What edit.Replay does when called (a walk over the translated program): for any bytes of at most a million. Written by wip/tools/gen15replay.py. -/
import Derived.Test.YtcahlmneancapaaGreatDoorFv23
import Derived.Test.YtcahlmneancapaaGreatDoorFv17
import Derived.Test.YtcahlmneancapaaGreatDoorFv22
import Derived.Test.YtcahlmneancapaaGreatDoorFv00
import Derived.Test.YtcahlmneancapaaGreatDoorFv15
namespace Go.Proofs.YtcahlmneancapaaGreatDoor.Clep
open Go.RowKit
set_option linter.unusedVariables false
set_option maxRecDepth 10000

theorem fload_any (R : Nat) (p : Int) (w : World) (h0 : w.cell? ⟨R, 0, none⟩ = some (.int .i64 p)) :
    Calls Tryz.prog 114 #[.pointer (some ⟨R, 0, none⟩)] w fun e w' => e = .returned (.int .i64 p) ∧ w' = w := by
  have hld := run_call_load (P := Tryz.prog) Tryz.func141 (by kernel_rfl) (by kernel_rfl) (by kernel_rfl) .i64 (by kernel_rfl) h0
  go_enter Tryz.func114, Tryz.ntmps114
  go_wp2
  go_ret
  exact ⟨rfl, rfl⟩
theorem fadd_any (R : Nat) (p : Int) (w : World) (h0 : w.cell? ⟨R, 0, none⟩ = some (.int .i64 p)) (hf : w.frozen? ⟨R, 0, none⟩ = false) (h1 : 0 ≤ p) (h2 : p ≤ 4611686018427387904) :
    Calls Tryz.prog 92 #[.pointer (some ⟨R, 0, none⟩), .int .i64 1] w fun e w' => e = .returned (.int .i64 (p + 1)) ∧ w' = w.setCell ⟨R, 0, none⟩ (.int .i64 (p + 1)) := by
  have hadd := run_call_add (P := Tryz.prog) Tryz.func120 (by kernel_rfl) (by kernel_rfl) (by kernel_rfl) .i64 (by kernel_rfl) (y := 1) (s := p + 1) h0 hf (by
    simp [go_sem, IntKind.wrap, IntKind.bits, IntKind.signed]
    omega)
  go_enter Tryz.func92, Tryz.ntmps92
  go_wp2
  go_ret
  exact ⟨rfl, rfl⟩
theorem ce_nil4 : ce [] = 4 := by unfold ce; rw [if_pos (by simp)]
theorem At.halt {zs : List Int} {j P : Nat} (h : At zs j P) (hc : ce (zs.drop P) ≠ 0) : (SP zs).1.length = j ∧ (SP zs).2.1 = P ∧ (((SP zs).2.2 = 0 ∧ ce (zs.drop P) = 4) ∨ (SP zs).2.2 = ce (zs.drop P)) := by
  have hP := h.1
  rcases Nat.lt_or_ge P zs.length with hl | hl
  · have := h.stop hl hc
    exact ⟨this.1, this.2.1, .inr this.2.2⟩
  · have := h.end (by omega)
    exact ⟨this.1, this.2.1, .inl ⟨this.2.2, by rw [List.drop_eq_nil_of_le hl]; exact ce_nil4⟩⟩
theorem vok_once {V : Vw} (h : vok V = true) : once V.f = true ∧ V.f.length ≤ 40 := by
  have hp := vok_parts2 h
  have h1 := hp.1
  unfold vwH at h1
  have h2 := of_decide_eq_true h1
  exact ⟨hp.2.2, h2.2.2.1⟩
theorem fE_once {F : List (Int × List Int)} {V : Vw} (h : fE zV F = some V) : once V.f = true ∧ V.f.length ≤ 40 := by
  rcases fE_ok F zV V h with ⟨_, rfl⟩ | h2
  · exact ⟨rfl, by decide⟩
  · exact vok_once h2
theorem replay_results {w : World} {R : Nat} {A B C D E n e : Int} {v : Value} (h : Ek w R #[.int .i64 A, v, .int .u64 B, .int .u64 C, .int .u64 D, .int .u64 E] 31) (ts : Array Value) (h2 : ts.getD 2 undef = .pointer (some ⟨R, 0, none⟩)) (h3 : ts.getD 3 undef = .int .i64 n) (h4 : ts.getD 4 undef = .int .i64 e) :
    (results Tryz.f86 ts).run Tryz.prog w = .ok (.tuple #[.agg #[.int .i64 A, v, .int .u64 B, .int .u64 C, .int .u64 D, .int .u64 E], .int .i64 n, .int .i64 e]) w := by
  have c0 := h.cell (o := 0) rfl
  have c1 := h.cell (o := 1) rfl
  have c2 := h.cell (o := 2) rfl
  have c3 := h.cell (o := 3) rfl
  have c4 := h.cell (o := 4) rfl
  have c5 := h.cell (o := 5) rfl
  rw [Array.getD_eq_getD_getElem?] at h2 h3 h4
  simp [results, Tryz.results86, go_sem, c0, c1, c2, c3, c4, c5, h2, h3, h4]
/-- Between the rounds of Replay. -/
structure Ry (w W : World) (V : Vw) (a : Option Addr) (c j : Nat) : Prop where
  z : Ek W w.heap.size #[.int .i64 V.lg, .slice a V.f.length c, .int .u64 V.fl, .int .u64 V.ct, .int .u64 V.at9, .int .u64 V.ls] 31
  n : Ek W (w.heap.size + 1) #[.int .i64 (j : Nat)] 75
  f : OwnF W (w.heap.size + 2) (.slice a V.f.length c) V.f
  wf : ∀ x ∈ V.f, x.wf
  bel : Below w.heap.size w W
  sz : w.heap.size + 2 ≤ W.heap.size
theorem Ry.keep {w W W' : World} {V : Vw} {a : Option Addr} {c j : Nat} (h : Ry w W V a c j) (hb : Below W.heap.size W W') : Ry w W' V a c j :=
  ⟨h.z.below hb h.z.lt, h.n.below hb h.n.lt, ownF_keep h.f hb, h.wf, h.bel.trans (hb.mono h.bel.size), Nat.le_trans h.sz hb.size⟩
theorem Ry.fs {w W : World} {V : Vw} {a : Option Addr} {c j : Nat} (h : Ry w W V a c j) : c ≤ 9223372036854775807 ∧ Fs W a V.f.length c V.f := by
  obtain ⟨a8, c8, e8, hc, hf, _⟩ := ownF_fs h.f h.wf
  injection e8 with e8 _ e9
  subst e8 e9
  exact ⟨hc, hf⟩
theorem Ry.new {w W : World} {V : Vw} {a : Option Addr} {c j : Nat} (h : Ry w W V a c j) : ∀ x, a = some x → w.heap.size ≤ x.block ∧ x.block < W.heap.size := fun x e => by
  subst e
  have := World.ownsRow.lt h.f _ (by rfl)
  omega
/-- What Replay returns; its row is new. -/
def RpB (r : Option (Vw × Nat)) (w : World) (e : Ending) (w' : World) : Prop := (match r with
  | none => e = .returned (.tuple #[vwV none 0 0 zV, .int .i64 0, .int .i64 9])
  | some x => ∃ a c, e = .returned (.tuple #[vwV a x.1.f.length c x.1, .int .i64 (x.2 : Nat), .int .i64 0]) ∧ Fs w' a x.1.f.length c x.1.f ∧ c ≤ 9223372036854775807 ∧ ∀ x, a = some x → w.heap.size ≤ x.block ∧ x.block < w'.heap.size) ∧ Below w.heap.size w w'
/-- One more is counted. -/
theorem Ry.add {w W : World} {V : Vw} {a : Option Addr} {c j : Nat} (h : Ry w W V a c j) : Ry w (W.setCell ⟨w.heap.size + 1, 0, none⟩ (.int .i64 ((j : Int) + 1))) V a c (j + 1) := by
  have hg := fgb_set W ⟨w.heap.size + 1, 0, none⟩ (.int .i64 ((j : Int) + 1))
  refine ⟨h.z.gb hg (fun e => ?_), ?_, ownF_grown h.f hg (fun k hk => ?_), h.wf, h.bel.grown hg h.bel.size (fun k hk => ?_), Nat.le_trans h.sz hg.size⟩
  · have : w.heap.size = w.heap.size + 1 := Option.some.inj e; omega
  · have := h.n.set 0 (.int .i64 ((j : Int) + 1)); rw [show ((j : Int) + 1) = ((j + 1 : Nat) : Int) from by omega] at this ⊢; exact this
  · have : w.heap.size + 1 = k := Option.some.inj hk; omega
  · have : w.heap.size + 1 = k := Option.some.inj hk; omega
/-- Another View in its place. -/
theorem Ry.put {w W : World} {V U : Vw} {a a' : Option Addr} {c c' j : Nat} (h : Ry w W V a c j) (hf : OwnF W (w.heap.size + 2) (.slice a' U.f.length c') U.f) (hw : ∀ x ∈ U.f, x.wf) : Ry w (set6 W w.heap.size (.int .i64 U.lg) (.slice a' U.f.length c') (.int .u64 U.fl) (.int .u64 U.ct) (.int .u64 U.at9) (.int .u64 U.ls)) U a' c' j := by
  have hg := gset6 W w.heap.size (.int .i64 U.lg) (.slice a' U.f.length c') (.int .u64 U.fl) (.int .u64 U.ct) (.int .u64 U.at9) (.int .u64 U.ls)
  refine ⟨(zset h.z h.bel (Nat.le_refl _) (.int .i64 U.lg) (.slice a' U.f.length c') (.int .u64 U.fl) (.int .u64 U.ct) (.int .u64 U.at9) (.int .u64 U.ls)).1, h.n.gb hg (fun e => ?_), ownF_grown hf hg (fun k hk => ?_), hw, (zset h.z h.bel (Nat.le_refl _) (.int .i64 U.lg) (.slice a' U.f.length c') (.int .u64 U.fl) (.int .u64 U.ct) (.int .u64 U.at9) (.int .u64 U.ls)).2, Nat.le_trans h.sz hg.size⟩
  · have : w.heap.size + 1 = w.heap.size := Option.some.inj e; omega
  · have : w.heap.size = k := Option.some.inj hk; omega

set_option maxHeartbeats 4000000 in
theorem ereplay_new (ao : Option Addr) (len cap : Nat) (zs : List Int) (w : World) (hm : len ≤ 1000000) (h : Bs w ao len cap zs) :
    Calls Tryz.prog 86 #[.slice ao len cap] w (RpB (rpE zs) w) := by
  have hzl := h.1
  have HB := hide (fun W (hW : Below w.heap.size w W) => h.below hW (Nat.le_refl _))
  have HBR := hide (bs_range h)
  have HLN := hide hzl
  have HER := hide (show ∀ W, rpE zs = none → Below w.heap.size w W → RpB (rpE zs) w (.returned (.tuple #[vwV none 0 0 zV, .int .i64 0, .int .i64 9])) W from fun W e hW => by rw [e]; exact ⟨rfl, hW⟩)
  have HGO := hide (show ∀ W a c V n, rpE zs = some (V, n) → Fs W a V.f.length c V.f → c ≤ 9223372036854775807 → (∀ x, a = some x → w.heap.size ≤ x.block ∧ x.block < W.heap.size) → Below w.heap.size w W → RpB (rpE zs) w (.returned (.tuple #[vwV a V.f.length c V, .int .i64 (n : Nat), .int .i64 0])) W from fun W a c V n e h1 h2 h4 h3 => by rw [e]; exact ⟨⟨a, c, rfl, h1, h2, h4⟩, h3⟩)
  have HRB := hide (fun j => @rpE_bad zs j)
  have HRE := hide (@rpE_err zs)
  have HRZ := hide (@rpE_zero zs)
  have HRS := hide (fun V => @rpE_some zs V)
  generalize hRR : RpB (rpE zs) w = RR at *
  clear hRR h hzl
  unfold vwV at HER HGO
  simp only [zV] at HER
  have A0 := (Below.refl w.heap.size w).alloc (Nat.le_refl _) (Obj.cells #[.int .i64 0, .slice none 0 0, .int .u64 0, .int .u64 0, .int .u64 0, .int .u64 0] 31)
  have A1 := (Below.refl _ (w.alloc (Obj.cells #[.int .i64 0, .slice none 0 0, .int .u64 0, .int .u64 0, .int .u64 0, .int .u64 0] 31))).alloc (Nat.le_refl _) (Obj.cells #[.int .i64 0] 75)
  have k0 := (ek_new w #[.int .i64 0, .slice none 0 0, .int .u64 0, .int .u64 0, .int .u64 0, .int .u64 0] 31).below A1 (ek_new w _ _).lt
  have k1 := ek_new (w.alloc (Obj.cells #[.int .i64 0, .slice none 0 0, .int .u64 0, .int .u64 0, .int .u64 0, .int .u64 0] 31)) #[.int .i64 0] 75
  have hsz : (w.alloc (Obj.cells #[.int .i64 0, .slice none 0 0, .int .u64 0, .int .u64 0, .int .u64 0, .int .u64 0] 31)).heap.size = w.heap.size + 1 := by simp
  rw [hsz] at k1
  have R0 := hide (show Ry w ((w.alloc (Obj.cells #[.int .i64 0, .slice none 0 0, .int .u64 0, .int .u64 0, .int .u64 0, .int .u64 0] 31)).alloc (Obj.cells #[.int .i64 0] 75)) zV none 0 0 from ⟨k0, k1, ownF_nil _ _, by simp [zV], A0.trans (A1.mono (by simp)), by simp⟩)
  clear A0 A1 k0 k1 hsz
  go_enter Tryz.func86, Tryz.ntmps86
  go_wp2_with fail
  generalize (w.alloc (Obj.cells #[.int .i64 0, .slice none 0 0, .int .u64 0, .int .u64 0, .int .u64 0, .int .u64 0] 31)).alloc (Obj.cells #[.int .i64 0] 75) = wa at *
  go_loopw [3] (fun t wr => ∃ j P : Nat, P ≤ len ∧ t = .int .i64 P ∧ Hid (j ≤ P ∧ At zs j P) ∧ Hid (∃ V a c, fE zV ((SP zs).1.take j) = some V ∧ Ry w wr V a c j)) (fun t _ => len - (intOf t).toNat)
  case atStart => exact ⟨0, 0, by omega, rfl, hide ⟨Nat.le_refl _, At.start zs⟩, hide ⟨zV, none, 0, rfl, R0.out⟩⟩
  case round =>
    obtain ⟨j, P, hP, rfl, hat, hst⟩ := hrel
    obtain ⟨V, a, c, hfE, hry⟩ := hst.out
    have HFE := hide hfE
    have RY := hide hry
    have hon := fE_once hfE
    have hst0 := hide (fun hc => hat.out.2.halt hc)
    have hgo := hide (fun hc => hat.out.2.step hc)
    have hbw := HB.out wr hry.bel
    by_cases hc : ce (zs.drop P) = 0
    · have U := hide (ftake_good ao len cap zs P wr (by omega) hbw hP (zs.drop P) rfl hc)
      have hk := ce_ok (zs.drop P) hc
      rw [List.length_drop, HLN.out] at hk
      have hg := hgo.out hc
      have HAT := hide hg.1
      have hjl := hg.2.1
      have HNX := hide (fE_next hjl hfE)
      rw [hg.2.2] at HNX
      have hbr : ByteL (bo (zs.drop P)) := ByteL.take (ByteL.drop (ByteL.take (ByteL.drop HBR.out P) _) _) _
      have hbl := bo_len _ hc
      have hrl := ln_range (zs.drop P) (range_of (ByteL.drop HBR.out P))
      clear hgo hg hst0 hc hst hfE hry hbw
      generalize bo (zs.drop P) = Y at *
      generalize kd (zs.drop P) = K at *
      generalize ln (zs.drop P) = L at *
      obtain ⟨N, rfl⟩ := Int.eq_ofNat_of_zero_le hrl.1
      simp only [Int.toNat_natCast] at hk hbl HAT
      have HBY := hide hbr
      have hPN : P + (N + 12) ≤ len := by omega
      have hjle := hat.out.1
      clear hbr hrl
      go_wp2_with fail
      refine U.out.mono ?_
      rintro e w1 ⟨v1, rfl, ho1, hb1⟩
      obtain ⟨a1, c1, rfl, hc1, hbs1, _⟩ := own_bs ho1 (range_of HBY.out)
      obtain ⟨n1, hn1⟩ : ∃ n, Y.length = n := ⟨_, rfl⟩
      rw [hn1] at hbs1 ⊢
      have RY1 := hide (RY.out.keep hb1)
      have hcc := RY1.out.fs
      have hc1m : c1 ≤ 9223372036854775807 := by unfold maxLen at hc1; omega
      have CC := hide (changed_any a V.f.length c V a1 n1 c1 Y w1 hcc.2 (by omega) hon.1 hbs1 (by omega) hc1m)
      have hz := RY1.out.z
      have cc0 : w1.cell? ⟨w.heap.size, 0, none⟩ = some (.int .i64 V.lg) := (hz).cell rfl
      have cc1 : w1.cell? ⟨w.heap.size, 1, none⟩ = some (.slice a V.f.length c) := (hz).cell rfl
      have cc2 : w1.cell? ⟨w.heap.size, 2, none⟩ = some (.int .u64 V.fl) := (hz).cell rfl
      have cc3 : w1.cell? ⟨w.heap.size, 3, none⟩ = some (.int .u64 V.ct) := (hz).cell rfl
      have cc4 : w1.cell? ⟨w.heap.size, 4, none⟩ = some (.int .u64 V.at9) := (hz).cell rfl
      have cc5 : w1.cell? ⟨w.heap.size, 5, none⟩ = some (.int .u64 V.ls) := (hz).cell rfl
      clear U ho1 hb1 hbs1 hz hcc
      by_cases hK : K = 6
      · subst hK
        have q6 : ((6 : Int) != 6) = false := by decide
        unfold vwV at CC
        go_wp2_with fail
        refine CC.out.mono ?_
        rintro e w2 hr2
        obtain ⟨r, hr⟩ : ∃ r, cgd V Y = r := ⟨_, rfl⟩
        rw [hr] at hr2
        have HNR := hide (show fE zV ((SP zs).1.take (j + 1)) = r from by rw [HNX.out]; simp only [if_true]; exact hr)
        have hvr := show ∀ U, r = some U → vok U = true from fun U e => cgd_ok (hr.trans e)
        clear hr HNX CC cc0 cc1 cc2 cc3 cc4 cc5
        cases r with
        | none =>
          obtain ⟨rfl, hb2⟩ := hr2
          have A2 := (Below.refl _ w2).alloc (Nat.le_refl _) (Obj.cells #[.int .i64 0, .slice none 0 0, .int .u64 0, .int .u64 0, .int .u64 0, .int .u64 0] 31)
          have RY2 := hide ((RY1.out.keep hb2).keep A2)
          have hz := RY2.out.z
          have cc0 : (w2.alloc (Obj.cells #[.int .i64 0, .slice none 0 0, .int .u64 0, .int .u64 0, .int .u64 0, .int .u64 0] 31)).cell? ⟨w.heap.size, 0, none⟩ = some (.int .i64 V.lg) := (hz).cell rfl
          have cc1 : (w2.alloc (Obj.cells #[.int .i64 0, .slice none 0 0, .int .u64 0, .int .u64 0, .int .u64 0, .int .u64 0] 31)).cell? ⟨w.heap.size, 1, none⟩ = some (.slice a V.f.length c) := (hz).cell rfl
          have cc2 : (w2.alloc (Obj.cells #[.int .i64 0, .slice none 0 0, .int .u64 0, .int .u64 0, .int .u64 0, .int .u64 0] 31)).cell? ⟨w.heap.size, 2, none⟩ = some (.int .u64 V.fl) := (hz).cell rfl
          have cc3 : (w2.alloc (Obj.cells #[.int .i64 0, .slice none 0 0, .int .u64 0, .int .u64 0, .int .u64 0, .int .u64 0] 31)).cell? ⟨w.heap.size, 3, none⟩ = some (.int .u64 V.ct) := (hz).cell rfl
          have cc4 : (w2.alloc (Obj.cells #[.int .i64 0, .slice none 0 0, .int .u64 0, .int .u64 0, .int .u64 0, .int .u64 0] 31)).cell? ⟨w.heap.size, 4, none⟩ = some (.int .u64 V.at9) := (hz).cell rfl
          have cc5 : (w2.alloc (Obj.cells #[.int .i64 0, .slice none 0 0, .int .u64 0, .int .u64 0, .int .u64 0, .int .u64 0] 31)).cell? ⟨w.heap.size, 5, none⟩ = some (.int .u64 V.ls) := (hz).cell rfl
          have cf0 : (w2.alloc (Obj.cells #[.int .i64 0, .slice none 0 0, .int .u64 0, .int .u64 0, .int .u64 0, .int .u64 0] 31)).frozen? ⟨w.heap.size, 0, none⟩ = false := (hz).free 0
          have cf1 : (w2.alloc (Obj.cells #[.int .i64 0, .slice none 0 0, .int .u64 0, .int .u64 0, .int .u64 0, .int .u64 0] 31)).frozen? ⟨w.heap.size, 1, none⟩ = false := (hz).free 1
          have cf2 : (w2.alloc (Obj.cells #[.int .i64 0, .slice none 0 0, .int .u64 0, .int .u64 0, .int .u64 0, .int .u64 0] 31)).frozen? ⟨w.heap.size, 2, none⟩ = false := (hz).free 2
          have cf3 : (w2.alloc (Obj.cells #[.int .i64 0, .slice none 0 0, .int .u64 0, .int .u64 0, .int .u64 0, .int .u64 0] 31)).frozen? ⟨w.heap.size, 3, none⟩ = false := (hz).free 3
          have cf4 : (w2.alloc (Obj.cells #[.int .i64 0, .slice none 0 0, .int .u64 0, .int .u64 0, .int .u64 0, .int .u64 0] 31)).frozen? ⟨w.heap.size, 4, none⟩ = false := (hz).free 4
          have cf5 : (w2.alloc (Obj.cells #[.int .i64 0, .slice none 0 0, .int .u64 0, .int .u64 0, .int .u64 0, .int .u64 0] 31)).frozen? ⟨w.heap.size, 5, none⟩ = false := (hz).free 5
          have HN := hide (HER.out · (HRB.out (j + 1) HNR.out))
          have hlz := hz.lt
          unfold vwV zV
          clear hz hb2 A2 HGO HRB HRE HRZ HRS hvr HNR
          go_wp2
          have HZS := zset RY2.out.z RY2.out.bel (Nat.le_refl _) (.int .i64 0) (.slice none 0 0) (.int .u64 0) (.int .u64 0) (.int .u64 0) (.int .u64 0)
          refine bodyPost_ret (replay_results (e := 9) HZS.1 _ rfl rfl rfl) rfl ?_
          exact HN.out _ HZS.2
        | some U2 =>
          obtain ⟨a2, c2, rfl, hc2, ho2, hf2, hb2⟩ := apr_some hr2
          have A2 := (Below.refl _ w2).alloc (Nat.le_refl _) (Obj.cells #[.int .i64 U2.lg, .slice a2 U2.f.length c2, .int .u64 U2.fl, .int .u64 U2.ct, .int .u64 U2.at9, .int .u64 U2.ls] 31)
          have RY2 := hide ((RY1.out.keep hb2).keep A2)
          have HO2 := hide (ownF_base (ownF_keep ho2 A2) RY1.out.sz)
          have HW2 := hide hf2.2.2.1
          have hnn := RY2.out.n
          have n0 := hnn.cell (o := 0) rfl
          have nf := hnn.free 0
          have CAD := hide (fadd_any (w.heap.size + 1) (j : Nat) (w2.alloc (Obj.cells #[.int .i64 U2.lg, .slice a2 U2.f.length c2, .int .u64 U2.fl, .int .u64 U2.ct, .int .u64 U2.at9, .int .u64 U2.ls] 31)) n0 nf (by omega) (by omega))
          have ke := hide (ek_new w2 #[.int .i64 U2.lg, .slice a2 U2.f.length c2, .int .u64 U2.fl, .int .u64 U2.ct, .int .u64 U2.at9, .int .u64 U2.ls] 31)
          have hsw : w2.heap.size ≥ w.heap.size + 2 := Nat.le_trans RY1.out.sz hb2.size
          unfold vwV
          clear hnn n0 nf hb2 A2 ho2 hf2 hr2
          go_wp2_with fail
          refine CAD.out.mono ?_
          rintro e w4 ⟨rfl, hw4⟩
          have hg4 := fgb_set (w2.alloc (Obj.cells #[.int .i64 U2.lg, .slice a2 U2.f.length c2, .int .u64 U2.fl, .int .u64 U2.ct, .int .u64 U2.at9, .int .u64 U2.ls] 31)) ⟨w.heap.size + 1, 0, none⟩ (.int .i64 ((j : Int) + 1))
          rw [← hw4] at hg4
          have RY4 := hide (show Ry w w4 V a c (j + 1) from by rw [hw4]; exact RY2.out.add)
          have k4 := ke.out.gb hg4 (fun e => by have : w2.heap.size = w.heap.size + 1 := Option.some.inj e; omega)
          have HO4 := hide (ownF_grown HO2.out hg4 (fun k hk => by have : w.heap.size + 1 = k := Option.some.inj hk; omega))
          have hz := RY4.out.z
          have hlz := hz.lt
          have hl4 := k4.lt
          have cc0 : w4.cell? ⟨w.heap.size, 0, none⟩ = some (.int .i64 V.lg) := (hz).cell rfl
          have cc1 : w4.cell? ⟨w.heap.size, 1, none⟩ = some (.slice a V.f.length c) := (hz).cell rfl
          have cc2 : w4.cell? ⟨w.heap.size, 2, none⟩ = some (.int .u64 V.fl) := (hz).cell rfl
          have cc3 : w4.cell? ⟨w.heap.size, 3, none⟩ = some (.int .u64 V.ct) := (hz).cell rfl
          have cc4 : w4.cell? ⟨w.heap.size, 4, none⟩ = some (.int .u64 V.at9) := (hz).cell rfl
          have cc5 : w4.cell? ⟨w.heap.size, 5, none⟩ = some (.int .u64 V.ls) := (hz).cell rfl
          have cf0 : w4.frozen? ⟨w.heap.size, 0, none⟩ = false := (hz).free 0
          have cf1 : w4.frozen? ⟨w.heap.size, 1, none⟩ = false := (hz).free 1
          have cf2 : w4.frozen? ⟨w.heap.size, 2, none⟩ = false := (hz).free 2
          have cf3 : w4.frozen? ⟨w.heap.size, 3, none⟩ = false := (hz).free 3
          have cf4 : w4.frozen? ⟨w.heap.size, 4, none⟩ = false := (hz).free 4
          have cf5 : w4.frozen? ⟨w.heap.size, 5, none⟩ = false := (hz).free 5
          have ck0 : w4.cell? ⟨w2.heap.size, 0, none⟩ = some (.int .i64 U2.lg) := (k4).cell rfl
          have ck1 : w4.cell? ⟨w2.heap.size, 1, none⟩ = some (.slice a2 U2.f.length c2) := (k4).cell rfl
          have ck2 : w4.cell? ⟨w2.heap.size, 2, none⟩ = some (.int .u64 U2.fl) := (k4).cell rfl
          have ck3 : w4.cell? ⟨w2.heap.size, 3, none⟩ = some (.int .u64 U2.ct) := (k4).cell rfl
          have ck4 : w4.cell? ⟨w2.heap.size, 4, none⟩ = some (.int .u64 U2.at9) := (k4).cell rfl
          have ck5 : w4.cell? ⟨w2.heap.size, 5, none⟩ = some (.int .u64 U2.ls) := (k4).cell rfl
          have RY5 := hide (RY4.out.put HO4.out HW2.out)
          unfold set6 at RY5
          clear hz CAD k4 hg4 hw4 HO4
          go_wp2
          go_roundw
          case rel => exact ⟨j + 1, P + (N + 12), hPN, by rw [show (P : Int) + 12 + (N : Int) = ((P + (N + 12) : Nat) : Int) from by omega], hide ⟨by omega, HAT.out⟩, hide ⟨U2, a2, c2, HNR.out, RY5.out⟩⟩
          case measure => simp [intOf]; omega
      · have q6 : (K != 6) = true := by simpa using hK
        have HN := hide (HER.out · (HRB.out (j + 1) (by rw [HNX.out, if_neg hK])))
        have hz := RY1.out.z
        have hlz := hz.lt
        have cf0 : w1.frozen? ⟨w.heap.size, 0, none⟩ = false := (hz).free 0
        have cf1 : w1.frozen? ⟨w.heap.size, 1, none⟩ = false := (hz).free 1
        have cf2 : w1.frozen? ⟨w.heap.size, 2, none⟩ = false := (hz).free 2
        have cf3 : w1.frozen? ⟨w.heap.size, 3, none⟩ = false := (hz).free 3
        have cf4 : w1.frozen? ⟨w.heap.size, 4, none⟩ = false := (hz).free 4
        have cf5 : w1.frozen? ⟨w.heap.size, 5, none⟩ = false := (hz).free 5
        clear hz HGO HRB HRE HRZ HRS CC HNX hK
        go_wp2
        have HZS := zset RY1.out.z RY1.out.bel (Nat.le_refl _) (.int .i64 0) (.slice none 0 0) (.int .u64 0) (.int .u64 0) (.int .u64 0) (.int .u64 0)
        refine bodyPost_ret (replay_results (e := 9) HZS.1 _ rfl rfl rfl) rfl ?_
        exact HN.out _ HZS.2
    · have U := hide (ftake_bad ao len cap zs P wr (by omega) hbw hP hc)
      have hs := hst0.out hc
      have hjle := hat.out.1
      clear hgo hst0 hbw hst hry
      obtain ⟨E, hE⟩ : ∃ E, ce (zs.drop P) = E := ⟨_, rfl⟩
      rw [hE] at U hc hs
      by_cases h4 : E = 4
      · subst h4
        have hF : (SP zs).1.take j = (SP zs).1 := List.take_of_length_le (by omega)
        rw [hF] at HFE
        have HSE := hide (show (SP zs).2.2 = 0 ∨ (SP zs).2.2 = 4 from by rcases hs.2.2 with h | h; exact .inl h.1; exact .inr h)
        go_wp2_with fail
        refine U.out.mono ?_
        rintro e w1 ⟨rfl, hb1⟩
        have RY1 := hide (RY.out.keep hb1)
        have CL := hide (fload_any (w.heap.size + 1) (j : Nat) w1 (RY1.out.n.cell (o := 0) rfl))
        clear U hb1
        by_cases hj0 : j = 0
        · have qj : ((j : Int) == 0) = true := by simp [hj0]
          have HN := hide (HER.out · (HRZ.out (by omega)))
          have hz := RY1.out.z
          have hlz := hz.lt
          have cc0 : w1.cell? ⟨w.heap.size, 0, none⟩ = some (.int .i64 V.lg) := (hz).cell rfl
          have cc1 : w1.cell? ⟨w.heap.size, 1, none⟩ = some (.slice a V.f.length c) := (hz).cell rfl
          have cc2 : w1.cell? ⟨w.heap.size, 2, none⟩ = some (.int .u64 V.fl) := (hz).cell rfl
          have cc3 : w1.cell? ⟨w.heap.size, 3, none⟩ = some (.int .u64 V.ct) := (hz).cell rfl
          have cc4 : w1.cell? ⟨w.heap.size, 4, none⟩ = some (.int .u64 V.at9) := (hz).cell rfl
          have cc5 : w1.cell? ⟨w.heap.size, 5, none⟩ = some (.int .u64 V.ls) := (hz).cell rfl
          have cf0 : w1.frozen? ⟨w.heap.size, 0, none⟩ = false := (hz).free 0
          have cf1 : w1.frozen? ⟨w.heap.size, 1, none⟩ = false := (hz).free 1
          have cf2 : w1.frozen? ⟨w.heap.size, 2, none⟩ = false := (hz).free 2
          have cf3 : w1.frozen? ⟨w.heap.size, 3, none⟩ = false := (hz).free 3
          have cf4 : w1.frozen? ⟨w.heap.size, 4, none⟩ = false := (hz).free 4
          have cf5 : w1.frozen? ⟨w.heap.size, 5, none⟩ = false := (hz).free 5
          clear hz HGO HRB HRE HRZ HRS HFE HSE hs hF hj0 hE hc hfE
          go_wp2_with fail
          refine CL.out.mono ?_
          rintro e y ⟨rfl, hy⟩
          have hy' := hy.symm
          subst hy'
          clear CL
          go_wp2
          have HZS := zset RY1.out.z RY1.out.bel (Nat.le_refl _) (.int .i64 0) (.slice none 0 0) (.int .u64 0) (.int .u64 0) (.int .u64 0) (.int .u64 0)
          refine bodyPost_ret (replay_results (e := 9) HZS.1 _ rfl rfl rfl) rfl ?_
          exact HN.out _ HZS.2
        · have qj : ((j : Int) == 0) = false := by simp [hj0]
          have hres := HRS.out V HSE.out (by omega) HFE.out
          rw [hs.2.1] at hres
          have HN := hide hres
          have hz := RY1.out.z
          have hlz := hz.lt
          have cc0 : w1.cell? ⟨w.heap.size, 0, none⟩ = some (.int .i64 V.lg) := (hz).cell rfl
          have cc1 : w1.cell? ⟨w.heap.size, 1, none⟩ = some (.slice a V.f.length c) := (hz).cell rfl
          have cc2 : w1.cell? ⟨w.heap.size, 2, none⟩ = some (.int .u64 V.fl) := (hz).cell rfl
          have cc3 : w1.cell? ⟨w.heap.size, 3, none⟩ = some (.int .u64 V.ct) := (hz).cell rfl
          have cc4 : w1.cell? ⟨w.heap.size, 4, none⟩ = some (.int .u64 V.at9) := (hz).cell rfl
          have cc5 : w1.cell? ⟨w.heap.size, 5, none⟩ = some (.int .u64 V.ls) := (hz).cell rfl
          have cf0 : w1.frozen? ⟨w.heap.size, 0, none⟩ = false := (hz).free 0
          have cf1 : w1.frozen? ⟨w.heap.size, 1, none⟩ = false := (hz).free 1
          have cf2 : w1.frozen? ⟨w.heap.size, 2, none⟩ = false := (hz).free 2
          have cf3 : w1.frozen? ⟨w.heap.size, 3, none⟩ = false := (hz).free 3
          have cf4 : w1.frozen? ⟨w.heap.size, 4, none⟩ = false := (hz).free 4
          have cf5 : w1.frozen? ⟨w.heap.size, 5, none⟩ = false := (hz).free 5
          clear hz HER HRB HRE HRZ HRS HFE HSE hs hF hj0 hE hc hres hfE
          go_wp2_with fail
          refine CL.out.mono ?_
          rintro e y ⟨rfl, hy⟩
          have hy' := hy.symm
          subst hy'
          clear CL
          go_wp2
          have RY5 := RY1.out.put RY1.out.f RY1.out.wf
          refine bodyPost_ret (replay_results (e := 0) RY5.z _ rfl rfl rfl) rfl ?_
          exact HGO.out _ a c V P HN.out RY5.fs.2 RY5.fs.1 RY5.new RY5.bel
      · have q0 : (E != 0) = true := by simpa using hc
        have q4 : (E == 4) = false := by simpa using h4
        have HN := hide (HER.out · (HRE.out (by rcases hs.2.2 with h | h; exact absurd h.2 h4; rw [h]; exact hc) (by rcases hs.2.2 with h | h; exact absurd h.2 h4; rw [h]; exact h4)))
        clear HGO HRB HRE HRZ HRS HFE hs hE hc h4 hfE
        go_wp2_with fail
        refine U.out.mono ?_
        rintro e w1 ⟨rfl, hb1⟩
        have RY1 := hide (RY.out.keep hb1)
        have hz := RY1.out.z
        have hlz := hz.lt
        have cc0 : w1.cell? ⟨w.heap.size, 0, none⟩ = some (.int .i64 V.lg) := (hz).cell rfl
        have cc1 : w1.cell? ⟨w.heap.size, 1, none⟩ = some (.slice a V.f.length c) := (hz).cell rfl
        have cc2 : w1.cell? ⟨w.heap.size, 2, none⟩ = some (.int .u64 V.fl) := (hz).cell rfl
        have cc3 : w1.cell? ⟨w.heap.size, 3, none⟩ = some (.int .u64 V.ct) := (hz).cell rfl
        have cc4 : w1.cell? ⟨w.heap.size, 4, none⟩ = some (.int .u64 V.at9) := (hz).cell rfl
        have cc5 : w1.cell? ⟨w.heap.size, 5, none⟩ = some (.int .u64 V.ls) := (hz).cell rfl
        have cf0 : w1.frozen? ⟨w.heap.size, 0, none⟩ = false := (hz).free 0
        have cf1 : w1.frozen? ⟨w.heap.size, 1, none⟩ = false := (hz).free 1
        have cf2 : w1.frozen? ⟨w.heap.size, 2, none⟩ = false := (hz).free 2
        have cf3 : w1.frozen? ⟨w.heap.size, 3, none⟩ = false := (hz).free 3
        have cf4 : w1.frozen? ⟨w.heap.size, 4, none⟩ = false := (hz).free 4
        have cf5 : w1.frozen? ⟨w.heap.size, 5, none⟩ = false := (hz).free 5
        clear hz U hb1
        go_wp2
        have HZS := zset RY1.out.z RY1.out.bel (Nat.le_refl _) (.int .i64 0) (.slice none 0 0) (.int .u64 0) (.int .u64 0) (.int .u64 0) (.int .u64 0)
        refine bodyPost_ret (replay_results (e := 9) HZS.1 _ rfl rfl rfl) rfl ?_
        exact HN.out _ HZS.2
theorem ereplay_any (ao : Option Addr) (len cap : Nat) (zs : List Int) (w : World) (hm : len ≤ 1000000) (h : Bs w ao len cap zs) :
    Calls Tryz.prog 86 #[.slice ao len cap] w (RpA (rpE zs) w) := by
  refine (ereplay_new ao len cap zs w hm h).mono ?_
  intro e w' h
  unfold RpB at h
  unfold RpA
  cases hr : rpE zs with
  | none => rw [hr] at h; exact h
  | some x =>
    rw [hr] at h
    obtain ⟨⟨a, c, h1, h2, h3, _⟩, h4⟩ := h
    exact ⟨⟨a, c, h1, h2, h3⟩, h4⟩

end Go.Proofs.YtcahlmneancapaaGreatDoor.Clep

/- What frame.count does when called (a walk over the translated program): for any bytes of at most 2^46; the number's cell is its own. -/
namespace Go.Proofs.YtcahlmneancapaaGreatDoor.Clep
open Go.RowKit
set_option linter.unusedVariables false
set_option maxRecDepth 10000

set_option maxHeartbeats 400000 in
theorem fcount_any (ao : Option Addr) (len cap R : Nat) (zs : List Int) (w : World) (hm : len ≤ 70368744177664) (hR : R < w.heap.size) (HB : ∀ W, Below R w W → Bs W ao len cap zs)
    (h0 : w.cell? ⟨R, 0, none⟩ = some (.int .i64 0)) (hf : w.frozen? ⟨R, 0, none⟩ = false) :
    Calls Tryz.prog 115 #[.slice ao len cap, .pointer (some ⟨R, 0, none⟩)] w fun e w' => e = .returned (.tuple #[.int .i64 ((SP zs).2.1 : Nat), .int .i64 (SP zs).2.2]) ∧ Below R w w' ∧
      w'.cell? ⟨R, 0, none⟩ = some (.int .i64 ((SP zs).1.length : Nat)) ∧ w'.frozen? ⟨R, 0, none⟩ = false := by
  have hl := hide (HB w (Below.refl _ _)).1
  have hrz := hide (bs_range (HB w (Below.refl _ _)))
  have H := hide HB
  clear HB
  go_enter Tryz.func115, Tryz.ntmps115
  go_wp2
  go_loopw [6] (fun u wr => ∃ P j : Nat, u = .int .i64 P ∧ P ≤ len ∧ j ≤ P ∧ Hid (At zs j P) ∧ Hid (Below R w wr) ∧ Hid (wr.cell? ⟨R, 0, none⟩ = some (.int .i64 j)) ∧ Hid (wr.frozen? ⟨R, 0, none⟩ = false)) (fun u _ => len - (intOf u).toNat)
  case atStart => exact ⟨0, 0, rfl, by omega, by omega, hide (At.start zs), hide (Below.refl _ _), hide h0, hide hf⟩
  case round =>
    obtain ⟨P, j, rfl, hP, hjP, hat, hbl, hcl, hfl⟩ := hrel
    by_cases hlt : P < len
    · have C := hide (check_any ao len cap zs P wr hm (H.out _ hbl.out) hP)
      have hRr : R < wr.heap.size := Nat.lt_of_lt_of_le hR hbl.out.size
      by_cases hc : ce (zs.drop P) = 0
      · have hk := ce_ok _ hc
        have hst := hat.out.step hc
        have hlr := ln_range (zs.drop P) (range_of (ByteL.drop hrz.out P))
        rw [List.length_drop, hl.out] at hk
        have hp : cp (zs.drop P) P = .agg #[.int .i64 (kd (zs.drop P)), .int .i64 (P + 8), .int .i64 (P + 8 + ln (zs.drop P))] := by unfold cp; rw [if_pos hc]; rfl
        rw [hp, hc] at C
        have HST := hide hst.1
        clear hp hst
        generalize kd (zs.drop P) = K at *
        generalize ln (zs.drop P) = L at *
        obtain ⟨N, rfl⟩ := Int.eq_ofNat_of_zero_le hlr.1
        go_wp2_with fail
        refine C.out.mono ?_
        rintro e w1 ⟨hb1, rfl⟩
        have b2 := hb1.alloc hb1.size (Obj.cells #[Value.int IntKind.i64 K, Value.int IntKind.i64 (P + 8), Value.int IntKind.i64 (P + 8 + N)] 170)
        have VP := var3_new w1 K (P + 8) (P + 8 + N)
        have c2 := (b2.cell (p := ⟨R, 0, none⟩) hRr).trans hcl.out
        have f2 := (b2.frozen (p := ⟨R, 0, none⟩) hRr).trans hfl.out
        have b2R := b2.mono (Nat.le_of_lt hRr)
        have hne : R < w1.heap.size := Nat.lt_of_lt_of_le hRr hb1.size
        have V2 := hide VP
        have B2 := hide b2R
        have C2 := hide c2
        have F2 := hide f2
        clear VP b2 b2R c2 f2 hb1 C
        go_wp2_with fail
        generalize w1.alloc (Obj.cells #[Value.int IntKind.i64 K, Value.int IntKind.i64 (P + 8), Value.int IntKind.i64 (P + 8 + N)] 170) = w2 at *
        refine (fadd_any R j w2 C2.out F2.out (by omega) (by omega)).mono ?_
        rintro e w3 ⟨rfl, hw3⟩
        have n0 : (⟨R, 0, none⟩ : Addr) ≠ ⟨w1.heap.size, 0, none⟩ := by intro h; injection h with h1; omega
        have n1 : (⟨R, 0, none⟩ : Addr) ≠ ⟨w1.heap.size, 1, none⟩ := by simp
        have n2 : (⟨R, 0, none⟩ : Addr) ≠ ⟨w1.heap.size, 2, none⟩ := by simp
        have q0 : w3.cell? ⟨w1.heap.size, 0, none⟩ = some (.int .i64 K) := by rw [hw3, World.cell?_setCell_other (h := n0)]; exact V2.out.1
        have q1 : w3.cell? ⟨w1.heap.size, 1, none⟩ = some (.int .i64 (P + 8)) := by rw [hw3, World.cell?_setCell_other (h := n1)]; exact V2.out.2.1
        have q2 : w3.cell? ⟨w1.heap.size, 2, none⟩ = some (.int .i64 (P + 8 + N)) := by rw [hw3, World.cell?_setCell_other (h := n2)]; exact V2.out.2.2.1
        have C3 := hide (show w3.cell? ⟨R, 0, none⟩ = some (.int .i64 ((j : Int) + 1)) by rw [hw3, World.cell?_setCell_same (h := C2.out)])
        have F3 := hide (show w3.frozen? ⟨R, 0, none⟩ = false by rw [hw3, World.frozen?_setCell]; exact F2.out)
        have B3 := hide (show Below R wr w3 by rw [hw3]; exact B2.out.setCell (Nat.le_refl _) _)
        clear hw3 n0 n1 n2 V2 B2 C2 F2
        go_wp2_with fail
        refine (next_any _ _ _ w3 (by omega) (by omega)).mono ?_
        rintro e w4 ⟨rfl, hb4⟩
        have hR3 : R < w3.heap.size := Nat.lt_of_lt_of_le hRr B3.out.size
        have C4 := hide ((hb4.cell (p := ⟨R, 0, none⟩) hR3).trans C3.out)
        have F4 := hide ((hb4.frozen (p := ⟨R, 0, none⟩) hR3).trans F3.out)
        have B4 := hide (hbl.out.trans (B3.out.trans (hb4.mono (Nat.le_of_lt hR3))))
        clear hb4 q0 q1 q2 C3 F3 B3
        go_wp2
        go_roundw
        case rel => exact ⟨P + (N + 12), j + 1, by rw [show (P : Int) + 8 + (N : Int) + 4 = ((P + (N + 12) : Nat) : Int) from by omega], by omega, by omega, HST, B4, hide (by rw [C4.out]; rfl), F4⟩
        case measure => simp [intOf]; omega
      · have hst := hat.out.stop (by rw [hl.out]; exact hlt) hc
        have hp : cp (zs.drop P) P = .agg #[.int .i64 0, .int .i64 0, .int .i64 0] := by unfold cp; rw [if_neg hc]; rfl
        rw [hp] at C
        have HST := hide hst
        clear hp hst
        generalize ce (zs.drop P) = E at *
        go_wp2_with fail
        refine C.out.mono ?_
        rintro e w1 ⟨hb1, rfl⟩
        have b2 := hb1.alloc hb1.size (Obj.cells #[Value.int IntKind.i64 0, Value.int IntKind.i64 0, Value.int IntKind.i64 0] 170)
        have C2 := hide ((b2.cell (p := ⟨R, 0, none⟩) hRr).trans hcl.out)
        have F2 := hide ((b2.frozen (p := ⟨R, 0, none⟩) hRr).trans hfl.out)
        have B2 := hide (hbl.out.trans (b2.mono (Nat.le_of_lt hRr)))
        clear b2 hb1 C
        go_wp2
        go_ret2
        exact ⟨by rw [HST.out.2.1, HST.out.2.2]; rfl, B2.out, by rw [HST.out.1]; exact C2.out, F2.out⟩
    · have h8 : P = len := by omega
      have hen := hat.out.end (by rw [hl.out]; exact h8)
      have HE := hide hen
      clear hen
      go_wp2
      go_ret2
      exact ⟨by rw [HE.out.2.1, HE.out.2.2]; rfl, hbl.out, by rw [HE.out.1]; exact hcl.out, hfl.out⟩

end Go.Proofs.YtcahlmneancapaaGreatDoor.Clep

/- Rows of bytes' rows in memory. No conditions. -/
namespace Go.Proofs.YtcahlmneancapaaGreatDoor.Clep
open Go.RowKit
set_option linter.unusedVariables false
set_option maxRecDepth 10000

/-- The slice value (ao, len, cap) leads to slices that lead to the texts zss in w. -/
def Bss (w : World) (ao : Option Addr) (len cap : Nat) (zss : List (List Int)) : Prop :=
  zss.length = len ∧ (len ≤ cap ∧ (ao = none → len = 0 ∧ cap = 0)) ∧
    (0 < len → ∃ b off, ao = some ⟨b, off, none⟩ ∧ ∀ i, i < len → ∃ a l c, w.cell? ⟨b, off + i, none⟩ = some (.slice a l c) ∧ l ≤ 9223372036854775807 ∧ Bs w a l c (zss.getD i []))

theorem drop_getL (zs : List (List Int)) (k : Nat) (h : k < zs.length) : zs.drop k = zs.getD k [] :: zs.drop (k + 1) := by
  rw [List.drop_eq_getElem_cons h]; simp [List.getD, List.getElem?_eq_getElem h]
theorem byteL_flat (zss : List (List Int)) (h : ∀ i, i < zss.length → ByteL (zss.getD i [])) : ByteL zss.flatten := by
  intro z hz
  obtain ⟨l, hl, hz⟩ := List.mem_flatten.1 hz
  obtain ⟨j, hj, rfl⟩ := List.getElem_of_mem hl
  have := h j hj
  simp only [List.getD, List.getElem?_eq_getElem hj, Option.getD_some] at this
  exact this z hz
theorem Bss.bytes {w : World} {ao : Option Addr} {len cap : Nat} {zss : List (List Int)} (h : Bss w ao len cap zss) : ByteL zss.flatten := by
  refine byteL_flat zss fun i hi => ?_
  obtain ⟨b, off, _, hc⟩ := h.2.2 (by have := h.1; omega)
  obtain ⟨a, l, c, _, _, hb⟩ := hc i (by have := h.1; omega)
  exact bs_range hb
theorem Bss.below {w w' : World} {B : Nat} {ao : Option Addr} {len cap : Nat} {zss : List (List Int)} (h : Bss w ao len cap zss) (hb : Below B w w') (hB : w.heap.size ≤ B) : Bss w' ao len cap zss := by
  refine ⟨h.1, h.2.1, fun h0 => ?_⟩
  obtain ⟨b, off, ho, hc⟩ := h.2.2 h0
  refine ⟨b, off, ho, fun i hi => ?_⟩
  obtain ⟨a, l, c, h1, h2, h3⟩ := hc i hi
  refine ⟨a, l, c, ?_, h2, h3.below hb hB⟩
  rw [hb.cell (p := ⟨b, off + i, none⟩) (Nat.lt_of_lt_of_le (World.block_lt_of_cell? w _ h1) hB)]
  exact h1

end Go.Proofs.YtcahlmneancapaaGreatDoor.Clep

/- What lies in memory while frame.Split runs: kinds and bodies of the first frames. No conditions. -/
namespace Go.Proofs.YtcahlmneancapaaGreatDoor.Clep
open Go.RowKit
set_option linter.unusedVariables false
set_option maxRecDepth 10000

theorem infoZ : (Tryz.prog.info? 3).map (fun i => (i.zero, i.size, i.bytes)) = some (some (.int .i64 0), 1, 8) := by kernel_rfl
theorem infoB : (Tryz.prog.info? 44).map (fun i => (i.zero, i.size, i.bytes)) = some (some (.slice none 0 0), 1, 24) := by kernel_rfl

theorem sp_len : ∀ (f : Nat) (X : List Int), (sp f X).1.length ≤ X.length
  | 0, X => by simp [sp]
  | f + 1, X => by
    rw [sp_succ]
    split
    · simp
    · rename_i hx
      split
      · have h := sp_len f (X.drop ((ln X).toNat + 12))
        have hp : 0 < X.length := List.length_pos_iff.2 hx
        rw [List.length_drop] at h
        simp only [List.length_cons]
        omega
      · simp
theorem SP_len (X : List Int) : (SP X).1.length ≤ X.length := sp_len _ X

theorem row_keep {w w' : World} {B e s n : Nat} {v : Value} {xs : List Value} (h : w.ownsRow B e s v n xs) (hb : Below w.heap.size w w') : w'.ownsRow B e s v n xs := by
  obtain ⟨hl, ⟨rfl, hn⟩ | ⟨g, cap, cur, rfl, hg, hh, hnc, hcm, hcs, hx⟩⟩ := h
  · exact ⟨hl, .inl ⟨rfl, hn⟩⟩
  · refine ⟨hl, .inr ⟨g, cap, cur, rfl, hg, ?_, hnc, hcm, hcs, hx⟩⟩
    rw [hb.block g (Array.getElem?_eq_some_iff.1 hh).1]
    exact hh
theorem Bs.gro {w w' : World} {g : Nat} {ao : Option Addr} {len cap : Nat} {zs : List Int} (h : Bs w ao len cap zs) (hg : w.grownBy w' (some g)) (hne : ∀ ad, ao = some ad → ad.block ≠ g) : Bs w' ao len cap zs := by
  refine ⟨h.1, h.2.1, h.2.2.1, fun h0 => ?_⟩
  obtain ⟨b, off, ho, hc⟩ := h.2.2.2 h0
  have hn := hne _ ho
  exact ⟨b, off, ho, fun i hi => hg.cell (hc i hi) (by simpa using hn)⟩

/-- The kinds of the first j frames, as they lie in memory. -/
def ik (F : List (Int × List Int)) (j : Nat) : List Value := (F.take j).map fun x => Value.int .i64 x.1
theorem ik_len (F : List (Int × List Int)) (j : Nat) (h : j ≤ F.length) : (ik F j).length = j := by unfold ik; rw [List.length_map, List.length_take]; omega
theorem ik_succ (F : List (Int × List Int)) (j : Nat) (h : j < F.length) : ik F (j + 1) = ik F j ++ [Value.int .i64 (F.getD j (0, [])).1] := by
  unfold ik
  rw [List.take_succ_eq_append_getElem h, List.map_append]
  simp [List.getD, List.getElem?_eq_getElem h]
def Kin (w : World) (R Kb j n : Nat) (F : List (Int × List Int)) : Prop := w.ownsRow R 3 1 (.slice (some ⟨Kb, 0, none⟩) j n) j (ik F j)
/-- The bodies of the first j frames, as they lie in memory. -/
def Bod (w : World) (R Gb j n : Nat) (F : List (Int × List Int)) : Prop := ∃ vs : List Value, w.ownsRow R 44 1 (.slice (some ⟨Gb, 0, none⟩) j n) j vs ∧
  ∀ i, i < j → ∃ a l c, vs[i]? = some (.slice a l c) ∧ c ≤ 9223372036854775807 ∧ Bs w a l c (F.getD i (0, [])).2 ∧ ∀ ad, a = some ad → Gb < ad.block
theorem Kin.below {w w' : World} {R Kb j n : Nat} {F : List (Int × List Int)} (h : Kin w R Kb j n F) (hb : Below w.heap.size w w') : Kin w' R Kb j n F := row_keep h hb
theorem Kin.grown {w w' : World} {R Kb j n g : Nat} {F : List (Int × List Int)} (h : Kin w R Kb j n F) (hg : w.grownBy w' (some g)) (hne : Kb ≠ g) : Kin w' R Kb j n F :=
  World.ownsRow.kept h hg (.inr (by simp [Value.ownBlock]; exact hne))
theorem Bod.below {w w' : World} {R Gb j n : Nat} {F : List (Int × List Int)} (h : Bod w R Gb j n F) (hb : Below w.heap.size w w') : Bod w' R Gb j n F := by
  obtain ⟨vs, h1, h2⟩ := h
  refine ⟨vs, row_keep h1 hb, fun i hi => ?_⟩
  obtain ⟨a, l, c, k1, k2, k3, k4⟩ := h2 i hi
  exact ⟨a, l, c, k1, k2, k3.below hb (Nat.le_refl _), k4⟩
theorem Bod.grown {w w' : World} {R Gb j n g : Nat} {F : List (Int × List Int)} (h : Bod w R Gb j n F) (hg : w.grownBy w' (some g)) (hne : g < Gb) : Bod w' R Gb j n F := by
  obtain ⟨vs, h1, h2⟩ := h
  refine ⟨vs, World.ownsRow.kept h1 hg (.inr (by simp [Value.ownBlock]; omega)), fun i hi => ?_⟩
  obtain ⟨a, l, c, k1, k2, k3, k4⟩ := h2 i hi
  exact ⟨a, l, c, k1, k2, k3.gro hg (fun ad ha => by have := k4 ad ha; omega), k4⟩

end Go.Proofs.YtcahlmneancapaaGreatDoor.Clep

/- What frame.Split does when called (a walk over the translated program): for any bytes of at most a million. -/
namespace Go.Proofs.YtcahlmneancapaaGreatDoor.Clep
open Go.RowKit
set_option linter.unusedVariables false
set_option maxRecDepth 10000

theorem bod_bss {w : World} {R Gb n : Nat} {F : List (Int × List Int)} (h : Bod w R Gb n n F) (hn : F.length = n) : Bss w (some ⟨Gb, 0, none⟩) n n (F.map Prod.snd) := by
  obtain ⟨vs, h1, h2⟩ := h
  refine ⟨by rw [List.length_map, hn], ⟨Nat.le_refl _, fun h => by cases h⟩, fun h0 => ⟨Gb, 0, rfl, fun i hi => ?_⟩⟩
  obtain ⟨a, l, c, k1, k2, k3, _⟩ := h2 i hi
  refine ⟨a, l, c, ?_, Nat.le_trans k3.2.1.1 k2, ?_⟩
  · rw [Nat.zero_add, h1.cellAt i (by omega)]; exact k1
  · have e : (F.map Prod.snd).getD i [] = (F.getD i (0, [])).2 := by
      simp only [List.getD, List.getElem?_map, List.getElem?_eq_getElem (show i < F.length by omega), Option.map_some, Option.getD_some]
    rw [e]; exact k3
theorem kin_cell {w : World} {R Kb n : Nat} {F : List (Int × List Int)} (h : Kin w R Kb n n F) (hn : F.length = n) (j : Nat) (hj : j < n) : w.cell? ⟨Kb, j, none⟩ = some (.int .i64 (F.getD j (0, [])).1) := by
  rw [World.ownsRow.cellAt h j (by omega)]
  unfold ik
  rw [List.take_of_length_le (by omega)]
  simp [List.getD, List.getElem?_eq_getElem (show j < F.length by omega)]
theorem bod_snoc {w' : World} {R Gb j n : Nat} {F : List (Int × List Int)} {vs : List Value} {a : Option Addr} {l c : Nat} (h1 : w'.ownsRow R 44 1 (.slice (some ⟨Gb, 0, none⟩) (j + 1) n) (j + 1) (vs ++ [.slice a l c]))
    (h2 : ∀ i, i < j → ∃ a l c, vs[i]? = some (.slice a l c) ∧ c ≤ 9223372036854775807 ∧ Bs w' a l c (F.getD i (0, [])).2 ∧ ∀ ad, a = some ad → Gb < ad.block) (hl : vs.length = j) (hm : c ≤ 9223372036854775807) (h3 : Bs w' a l c (F.getD j (0, [])).2) (h4 : ∀ ad, a = some ad → Gb < ad.block) : Bod w' R Gb (j + 1) n F := by
  refine ⟨vs ++ [.slice a l c], h1, fun i hi => ?_⟩
  rcases Nat.lt_or_ge i j with h | h
  · obtain ⟨a', l', c', k1, k2⟩ := h2 i h
    exact ⟨a', l', c', by rw [List.getElem?_append_left (by omega)]; exact k1, k2⟩
  · have : i = j := by omega
    subst this
    exact ⟨a, l, c, by rw [List.getElem?_append_right (by omega), hl]; simp, hm, h3, h4⟩

theorem own_blk {w : World} {B : Nat} {ao : Option Addr} {l c : Nat} {zs : List Int} (h : Own w B (.slice ao l c) zs) : ∀ ad, ao = some ad → B ≤ ad.block := by
  obtain ⟨hl, ⟨hv, hn⟩ | ⟨g, cap, cur, hv, hg, _⟩⟩ := h
  · cases hv; intro ad h; cases h
  · cases hv; intro ad h; cases h; exact hg

set_option maxHeartbeats 800000 in
theorem fsplit_more (ao : Option Addr) (len cap : Nat) (zs : List Int) (w : World) (hm : len ≤ 1000000) (h : Bs w ao len cap zs) (n : Nat) (hn : (SP zs).1.length = n) :
    Calls Tryz.prog 87 #[.slice ao len cap] w fun e w' => ∃ Kb Gb : Nat, e = .returned (.tuple #[.slice (some ⟨Kb, 0, none⟩) n n, .slice (some ⟨Gb, 0, none⟩) n n, .int .i64 ((SP zs).2.1 : Nat), .int .i64 (SP zs).2.2]) ∧
      (∀ j, j < n → w'.cell? ⟨Kb, j, none⟩ = some (.int .i64 ((SP zs).1.getD j (0, [])).1)) ∧ Bod w' w.heap.size Gb n n (SP zs).1 ∧ Below w.heap.size w w' := by
  obtain ⟨iI, hiI, hzI0, hzI1, hzI2⟩ := info_parts infoZ
  obtain ⟨iB, hiB, hzB0, hzB1, hzB2⟩ := info_parts infoB
  have hnl : n ≤ len := by rw [← hn, ← h.1]; exact SP_len zs
  have hl := hide h.1
  have hrz := hide (bs_range h)
  have H := hide (fun W (hW : Below w.heap.size w W) => h.below hW (Nat.le_refl _))
  have HN := hide hn
  clear h hn
  generalize hF : (SP zs).1 = F at *
  have HF := hide hF
  clear hF
  generalize hE1 : (SP zs).2.1 = E1 at *
  generalize hE2 : (SP zs).2.2 = E2 at *
  have HE1 := hide hE1
  have HE2 := hide hE2
  clear hE1 hE2
  have hA0 : Below w.heap.size w (w.alloc (Obj.cells #[Value.int IntKind.i64 0] 75)) := (Below.refl _ w).alloc (Nat.le_refl _) _
  have cC := hide (fcount_any ao len cap w.heap.size zs (w.alloc (Obj.cells #[Value.int IntKind.i64 0] 75)) (by omega) (by simp) (fun W hW => H.out W (hA0.trans hW)) (by simp [go_sem]) (by simp [go_sem]))
  rw [HF.out, HE1.out, HE2.out, HN.out] at cC
  have HA0 := hide hA0
  clear hA0
  go_enter Tryz.func87, Tryz.ntmps87
  go_wp2_with fail
  refine cC.out.mono ?_
  rintro e w1 ⟨rfl, hb1, hc1, hf1⟩
  have HB1 := hide (HA0.out.trans hb1)
  have hR1 : w.heap.size < w1.heap.size := World.block_lt_of_cell? w1 _ hc1
  have HC1 := hide hc1
  clear hb1 hc1 hf1 cC HA0
  go_wp2_with (first
    | (go_at_call 114; refine (fload_any w.heap.size n w1 HC1.out).mono ?_; rintro e w' ⟨rfl, rfl⟩)
    | (at_make; refine wpList_make_own _ rfl _ _ 32 rfl w.heap.size 3 iI (.int .i64 0) 1 Tryz.underlying32 hiI hzI0 hzI1 .i64 .i64 n n rfl rfl rfl ?c2 ?c3 ?c4 ?_)
    | fail)
  case c2 => rw [hzI2]; omega
  case c3 => unfold maxLen; omega
  case c4 => omega
  intro w2 ho2 hg2
  have hb2 := (Below.refl w'.heap.size w').grown hg2 (Nat.le_refl _) (fun k hk => by cases hk)
  have hlt2 : w'.heap.size < w2.heap.size := (ho2.lt _ rfl).2
  have HK2 := hide (show Kin w2 w.heap.size w'.heap.size 0 n F from ho2)
  have HC2 := hide ((hb2.cell (p := ⟨w.heap.size, 0, none⟩) hR1).trans HC1.out)
  have HB2 := hide (HB1.out.trans (hb2.mono (Nat.le_of_lt hR1)))
  clear ho2 hg2 hb2 HC1 HB1
  generalize w'.heap.size = Kb at *
  have hR2 : w.heap.size < w2.heap.size := by omega
  go_wp2_with (first
    | (go_at_call 114; refine (fload_any w.heap.size n w2 HC2.out).mono ?_; rintro e w'' ⟨rfl, rfl⟩)
    | (at_make; refine wpList_make_own _ rfl _ _ 150 rfl w.heap.size 44 iB (.slice none 0 0) 1 Tryz.underlying150 hiB hzB0 hzB1 .i64 .i64 n n rfl rfl rfl ?d2 ?d3 ?d4 ?_)
    | fail)
  case d2 => rw [hzB2]; omega
  case d3 => unfold maxLen; omega
  case d4 => omega
  intro w3 ho3 hg3
  have hb3 := (Below.refl w''.heap.size w'').grown hg3 (Nat.le_refl _) (fun k hk => by cases hk)
  have hlt3 : w''.heap.size < w3.heap.size := (ho3.lt _ rfl).2
  have HG3 := hide (show Bod w3 w.heap.size w''.heap.size 0 n F from ⟨[], ho3, fun i hi => by omega⟩)
  have HK3 := hide (HK2.out.below hb3)
  have HC3 := hide ((hb3.cell (p := ⟨w.heap.size, 0, none⟩) hR2).trans HC2.out)
  have HB3 := hide (HB2.out.trans (hb3.mono (Nat.le_of_lt hR2)))
  clear ho3 hg3 hb3 HC2 HB2 HK2
  generalize w''.heap.size = Gb at *
  go_wp2_with (first
    | (go_at_call 114; refine (fload_any w.heap.size n w3 HC3.out).mono ?_; rintro e w4 ⟨rfl, rfl⟩)
    | fail)
  clear HC3
  go_loopw [2, 3, 7, 19] (fun ks bs u i wr => ∃ j P : Nat, ks = .slice (some ⟨Kb, 0, none⟩) j n ∧ bs = .slice (some ⟨Gb, 0, none⟩) j n ∧ u = .int .i64 P ∧ i = .int .i64 j ∧ j ≤ n ∧ P ≤ len ∧ Gb < wr.heap.size ∧ Hid (At zs j P) ∧
    Hid (Kin wr w.heap.size Kb j n F) ∧ Hid (Bod wr w.heap.size Gb j n F) ∧ Hid (Below w.heap.size w wr)) (fun _ _ _ i _ => n - (intOf i).toNat)
  case atStart => exact ⟨0, 0, rfl, rfl, rfl, rfl, by omega, by omega, hlt3, hide (At.start zs), HK3, HG3, HB3⟩
  case round =>
    obtain ⟨j, P, rfl, rfl, rfl, rfl, hj, hP, hGr, hat, hK, hG, hB⟩ := hrel
    by_cases hlt : j < n
    · have hc : ce (zs.drop P) = 0 := hat.out.more (by rw [HF.out, HN.out]; exact hlt)
      have hst := hat.out.step hc
      have hk := ce_ok _ hc
      have hlr := ln_range (zs.drop P) (range_of (ByteL.drop hrz.out P))
      rw [List.length_drop, hl.out] at hk
      have hbs := H.out wr hB.out
      obtain ⟨b, off, rfl, -⟩ := hbs.2.2.2 (by omega)
      have C := hide (fread_any b off len cap zs P wr (by omega) hbs P rfl (by omega))
      rw [show pl (zs.getD P 0) ((P : Int) + 8) ((P : Int) + 8 + (zs.getD (P + 1) 0 * 65536 + zs.getD (P + 2) 0 * 256 + zs.getD (P + 3) 0)) = .agg #[.int .i64 (kd (zs.drop P)), .int .i64 (P + 8), .int .i64 (P + 8 + ln (zs.drop P))] from by
        unfold pl kd ln; simp only [getD_drop, Nat.add_zero]] at C
      have hcu : (zs.take (P + 8 + (ln (zs.drop P)).toNat)).drop (P + 8) = bo (zs.drop P) := bo_cut zs P _ rfl
      have hbl := bo_len _ hc
      have hbr : ByteL (bo (zs.drop P)) := by
        rw [← hcu]; exact ByteL.drop (ByteL.take hrz.out _) _
      have HST := hide hst.1
      have hel := hst.2.2
      rw [HF.out] at hel
      generalize bo (zs.drop P) = Y at *
      generalize kd (zs.drop P) = K at *
      generalize ln (zs.drop P) = L at *
      obtain ⟨N, rfl⟩ := Int.eq_ofNat_of_zero_le hlr.1
      simp only [Int.toNat_natCast] at hcu hbl hk HST
      have HEL := hide hel
      have HCU := hide hcu
      have HBR := hide hbr
      have HBL := hide hbl
      have hN : N ≤ 60000 := by omega
      have hPN : P + (N + 12) ≤ len := by omega
      clear hst hbs hel hcu hbl hbr hc hk hlr
      go_wp2_with fail
      refine C.out.mono ?_
      rintro e w1 ⟨rfl, hb1⟩
      have b2 := hb1.alloc hb1.size (Obj.cells #[Value.int IntKind.i64 K, Value.int IntKind.i64 (P + 8), Value.int IntKind.i64 (P + 8 + N)] 170)
      have V2 := var3_new w1 K (P + 8) (P + 8 + N)
      have K2 := hK.out.below b2
      have G2 := hG.out.below b2
      have B2 := hB.out.trans (b2.mono hB.out.size)
      have s2 : wr.heap.size ≤ w1.heap.size := hb1.size
      have s3 : w1.heap.size < (w1.alloc (Obj.cells #[Value.int IntKind.i64 K, Value.int IntKind.i64 (P + 8), Value.int IntKind.i64 (P + 8 + N)] 170)).heap.size := by simp
      clear hb1 b2 C
      have HV2 := hide V2
      have HK2 := hide K2
      have HG2 := hide G2
      have HB2 := hide B2
      have HS3 := hide s3
      obtain ⟨q0, q1, q2, f0, f1, f2⟩ := V2
      clear K2 G2 B2 s3
      go_wp2_with (first
        | (at_builtin; refine wpList_append_fits_any _ rfl _ _ 32 rfl w.heap.size 3 iI 1 Tryz.underlying32 hiI hzI1 Kb j n (ik F j) rfl (HK2.out.alloc _) _ 1 1 [.int .i64 K] rfl ?e1 ?e2 ?e3 ?e4 ?e5 ?_)
        | fail)
      case e1 => rfl
      case e2 => intro h; cases h
      case e3 =>
        intro ad had i u hu
        cases had
        have := cell_one_new (w1.alloc (Obj.cells #[Value.int IntKind.i64 K, Value.int IntKind.i64 (P + 8), Value.int IntKind.i64 (P + 8 + N)] 170)) (.int .i64 K) 3 i u hu
        rwa [World.size_alloc] at this
      case e4 => intro u hu; simp at hu; subst hu; rfl
      case e5 => omega
      intro w3 ho3 hg3
      have bA : Below (w1.alloc (Obj.cells #[Value.int IntKind.i64 K, Value.int IntKind.i64 (P + 8), Value.int IntKind.i64 (P + 8 + N)] 170)).heap.size (w1.alloc (Obj.cells #[Value.int IntKind.i64 K, Value.int IntKind.i64 (P + 8), Value.int IntKind.i64 (P + 8 + N)] 170)) ((w1.alloc (Obj.cells #[Value.int IntKind.i64 K, Value.int IntKind.i64 (P + 8), Value.int IntKind.i64 (P + 8 + N)] 170)).alloc (Obj.cells #[Value.int IntKind.i64 K] 3)) := (Below.refl _ _).alloc (Nat.le_refl _) _
      have hVa := HV2.out.below bA (Nat.le_refl _)
      have hne1 : w1.heap.size ≠ Kb := by omega
      have x0 := hg3.cell hVa.1 (by simpa using hne1)
      have x1 := hg3.cell hVa.2.1 (by simpa using hne1)
      have x2 := hg3.cell hVa.2.2.1 (by simpa using hne1)
      have X3 := hide (And.intro x0 (And.intro x1 x2))
      have K3 := hide (show Kin w3 w.heap.size Kb (j + 1) n F from by unfold Kin; rw [ik_succ F j (by rw [HN.out]; exact hlt), HEL.out]; exact ho3)
      have G3 := hide ((HG2.out.below bA).grown hg3 hlt2)
      have bB := HB2.out.trans (bA.mono HB2.out.size)
      have B3 := hide (bB.grown hg3 bB.size (fun k hk => by cases hk; omega))
      have s4 := ((Below.refl 0 _).grown hg3 (Nat.zero_le _) (fun k hk => Nat.zero_le _)).size
      have S4 : w1.heap.size < w3.heap.size := by have := HS3.out; have := bA.size; omega
      clear bA hVa x0 x1 x2 ho3 hg3 bB s4 q0 q1 q2 f0 f1 f2 HV2 HK2 HG2 HB2 HS3
      obtain ⟨y0, y1, y2⟩ := X3.out
      have cBd := hide (body_any (some ⟨b, off, none⟩) len cap zs K (P + 8) (P + 8 + N) w3 (by omega) (H.out _ B3.out) (by omega) (by omega) (by omega))
      rw [show ((P : Int) + 8 + (N : Int)).toNat = P + 8 + N from by omega, show ((P : Int) + 8).toNat = P + 8 from by omega, HCU.out] at cBd
      unfold pl at cBd
      go_wp2_with fail
      refine cBd.out.mono ?_
      rintro e w4 ⟨v4, rfl, ho4, hb4⟩
      obtain ⟨a4, c4, hv4, hcm4, hbs4, hbk4⟩ := own_bs ho4 (range_of HBR.out)
      rw [HBL.out] at hv4 hbs4
      subst hv4
      have z0 := (hb4.cell (p := ⟨w1.heap.size, 0, none⟩) S4).trans y0
      have z1 := (hb4.cell (p := ⟨w1.heap.size, 1, none⟩) S4).trans y1
      have z2 := (hb4.cell (p := ⟨w1.heap.size, 2, none⟩) S4).trans y2
      have HK4 := hide (K3.out.below hb4)
      have HG4 := hide (G3.out.below hb4)
      have HB4 := hide (B3.out.trans (hb4.mono B3.out.size))
      have HBS4 := hide hbs4
      have s4 := hb4.size
      have HBK4 := hide (show ∀ ad, a4 = some ad → Gb < ad.block from fun ad had => by have := own_blk ho4 ad had; omega)
      clear hb4 ho4 hbs4 hbk4 cBd y0 y1 y2 X3 K3 G3 B3
      obtain ⟨vs, hrow, hvs⟩ := HG4.out
      have HRW := hide hrow
      have HVS := hide hvs
      clear hrow hvs
      go_wp2_with (first
        | (at_builtin; refine wpList_append_fits_any _ rfl _ _ 150 rfl w.heap.size 44 iB 1 Tryz.underlying150 hiB hzB1 Gb j n vs rfl (HRW.out.alloc _) _ 1 1 [.slice a4 N c4] rfl ?f1 ?f2 ?f3 ?f4 ?f5 ?_)
        | fail)
      case f1 => rfl
      case f2 => intro h; cases h
      case f3 =>
        intro ad had i u hu
        cases had
        exact cell_one_new w4 (.slice a4 N c4) 44 i u hu
      case f4 => intro u hu; simp at hu; subst hu; rfl
      case f5 => omega
      intro w5 ho5 hg5
      have bW : Below w4.heap.size w4 (w4.alloc (Obj.cells #[.slice a4 N c4] 44)) := (Below.refl _ _).alloc (Nat.le_refl _) _
      have S5 : w1.heap.size < w4.heap.size := by omega
      have hne5 : w1.heap.size ≠ Gb := by omega
      have t0 := hg5.cell ((bW.cell (p := ⟨w1.heap.size, 0, none⟩) S5).trans z0) (by simpa using hne5)
      have t1 := hg5.cell ((bW.cell (p := ⟨w1.heap.size, 1, none⟩) S5).trans z1) (by simpa using hne5)
      have t2 := hg5.cell ((bW.cell (p := ⟨w1.heap.size, 2, none⟩) S5).trans z2) (by simpa using hne5)
      have K5 := hide ((HK4.out.below bW).grown hg5 (by omega))
      have G5 := hide (bod_snoc (F := F) ho5 (fun i hi => by
        obtain ⟨a, l, c, k1, k2, k3, k4⟩ := HVS.out i hi
        exact ⟨a, l, c, k1, k2, (k3.below bW (Nat.le_refl _)).gro hg5 (fun ad ha => by have := k4 ad ha; omega), k4⟩) (by have := HRW.out.1; omega) (by unfold maxLen at hcm4; omega)
        (by rw [HEL.out]; exact (HBS4.out.below bW (Nat.le_refl _)).gro hg5 (fun ad ha => by have := HBK4.out ad ha; omega)) HBK4.out)
      have bB := HB4.out.trans (bW.mono HB4.out.size)
      have B5 := hide (bB.grown hg5 bB.size (fun k hk => by cases hk; omega))
      have s5 := ((Below.refl 0 _).grown hg5 (Nat.zero_le _) (fun k hk => Nat.zero_le _)).size
      have S6 : Gb < w5.heap.size := by have := bW.size; omega
      clear bW ho5 hg5 bB s5 z0 z1 z2 HK4 HG4 HB4 HBS4 HBK4 HRW HVS
      go_wp2_with fail
      refine (next_any _ _ _ w5 (by omega) (by omega)).mono ?_
      rintro e w6 ⟨rfl, hb6⟩
      have K6 := hide (K5.out.below hb6)
      have G6 := hide (G5.out.below hb6)
      have B6 := hide (B5.out.trans (hb6.mono B5.out.size))
      have s6 := hb6.size
      clear hb6 K5 G5 B5 t0 t1 t2
      go_wp2
      go_roundw
      case rel => exact ⟨j + 1, P + (N + 12), rfl, rfl, by rw [show (P : Int) + 8 + (N : Int) + 4 = ((P + (N + 12) : Nat) : Int) from by omega], by go_num, by omega, hPN, by omega, HST, K6, G6, B6⟩
      case measure => simp [intOf]; omega
    · have h8 : j = n := by omega
      subst h8
      go_wp2
      refine bodyPost_ret (by simp [results, Tryz.results87, go_sem]) rfl ⟨Kb, Gb, rfl, fun i hi => kin_cell hK.out HN.out i hi, hG.out, hB.out⟩

theorem fsplit_any (ao : Option Addr) (len cap : Nat) (zs : List Int) (w : World) (hm : len ≤ 1000000) (h : Bs w ao len cap zs) (n : Nat) (hn : (SP zs).1.length = n) :
    Calls Tryz.prog 87 #[.slice ao len cap] w fun e w' => ∃ Kb Gb : Nat, e = .returned (.tuple #[.slice (some ⟨Kb, 0, none⟩) n n, .slice (some ⟨Gb, 0, none⟩) n n, .int .i64 ((SP zs).2.1 : Nat), .int .i64 (SP zs).2.2]) ∧
      (∀ j, j < n → w'.cell? ⟨Kb, j, none⟩ = some (.int .i64 ((SP zs).1.getD j (0, [])).1)) ∧ Bss w' (some ⟨Gb, 0, none⟩) n n ((SP zs).1.map Prod.snd) ∧ Below w.heap.size w w' := by
  refine (fsplit_more ao len cap zs w hm h n hn).mono ?_
  rintro e w' ⟨Kb, Gb, rfl, h1, h2, h3⟩
  exact ⟨Kb, Gb, rfl, h1, bod_bss h2 hn, h3⟩

end Go.Proofs.YtcahlmneancapaaGreatDoor.Clep
