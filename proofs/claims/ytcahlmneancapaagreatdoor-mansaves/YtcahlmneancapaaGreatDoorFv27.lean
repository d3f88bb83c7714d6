/- What View of a Manifest does when called (a walk over the translated program). Conditions: a View of at most 100,000 files. -/
import Derived.Test.YtcahlmneancapaaGreatDoorFv14
import Derived.Test.YtcahlmneancapaaGreatDoorFv26
import Derived.Test.YtcahlmneancapaaGreatDoorFv22
import Derived.Test.YtcahlmneancapaaGreatDoorFv03
import Derived.Test.YtcahlmneancapaaGreatDoorFv23
import Derived.Test.YtcahlmneancapaaGreatDoorFv13
import Derived.Test.YtcahlmneancapaaGreatDoorFv18
import Derived.Maps.AppendAt
namespace Go.Proofs.YtcahlmneancapaaGreatDoor.Clep
open Go.RowKit Go.Maps
set_option linter.unusedVariables false
set_option maxRecDepth 10000

set_option maxHeartbeats 1000000 in
theorem mview_any {F : Nat → Prop} {w : World} {M R n c : Nat} {V : Vw} {br : Bool} {S : St} (h : Ma F w M R n c V br S) (hn : V.f.length ≤ 100000) :
    Calls Tryz.prog 15 #[.pointer (some ⟨M, 0, none⟩)] w (OwA V w) := by
  obtain ⟨fa, fc, hb, hfs, hcap, hx⟩ := h.blk
  have hMw := h.lt
  have HR := hide (show ∀ (a : Option Addr) (c : Nat) (W : World), c ≤ 9223372036854775807 → OwnF W w.heap.size (.slice a V.f.length c) V.f → Fs W a V.f.length c V.f → (∀ x, a = some x → w.heap.size ≤ x.block) → Below w.heap.size w W → OwA V w (.returned (vwV a V.f.length c V)) W from fun a c W h1 h2 h3 h4 h5 => ⟨a, c, rfl, h1, h2, h3, h4, h5⟩)
  generalize OwA V w = Q at *
  have hA1 := (Below.refl _ w).alloc (Nat.le_refl _) (Obj.cells #[.int .i64 0, .slice none 0 0, .int .u64 0, .int .u64 0, .int .u64 0, .int .u64 0] 31)
  have k2 := ek_new w #[.int .i64 0, .slice none 0 0, .int .u64 0, .int .u64 0, .int .u64 0, .int .u64 0] 31
  have hs1 : (w.alloc (Obj.cells #[.int .i64 0, .slice none 0 0, .int .u64 0, .int .u64 0, .int .u64 0, .int .u64 0] 31)).heap.size = w.heap.size + 1 := by simp
  have C := hide (mown_any fa V.f.length fc V _ (hfs.below hA1 (Nat.le_refl _)) hn)
  have K2 := hide k2
  have HA1 := hide hA1
  have HS1 := hide hs1
  have c3 : w.cell? ⟨M, 3, none⟩ = some (.int .i64 V.lg) := hb.cell rfl
  have c4 : w.cell? ⟨M, 4, none⟩ = some (.slice fa V.f.length fc) := hb.cell rfl
  have c5 : w.cell? ⟨M, 5, none⟩ = some (.int .u64 V.fl) := hb.cell rfl
  have c6 : w.cell? ⟨M, 6, none⟩ = some (.int .u64 V.ct) := hb.cell rfl
  have c7 : w.cell? ⟨M, 7, none⟩ = some (.int .u64 V.at9) := hb.cell rfl
  have c8 : w.cell? ⟨M, 8, none⟩ = some (.int .u64 V.ls) := hb.cell rfl
  unfold vwV at C HR
  clear h hb hfs hx k2 hA1 hs1
  go_enter Tryz.func15, Tryz.ntmps15
  go_wp2_with fail
  refine C.out.mono ?_
  rintro e w1 ⟨a, c', rfl, hc, ho, hf, hx, hb⟩
  unfold vwV
  have hsz2 := HS1.out
  have hsz1 := hb.size
  have j2 := Ek.keep K2.out hb
  have q3 := (((((j2.set 0 (.int .i64 V.lg)).set 1 (.slice a V.f.length c')).set 2 (.int .u64 V.fl)).set 3 (.int .u64 V.ct)).set 4 (.int .u64 V.at9)).set 5 (.int .u64 V.ls)
  have hg := gset6a w1 w.heap.size (.int .i64 V.lg) (.slice a V.f.length c') (.int .u64 V.fl) (.int .u64 V.ct) (.int .u64 V.at9) (.int .u64 V.ls)
  have ho2 : OwnF w1 w.heap.size (.slice a V.f.length c') V.f := row_base ho (by omega)
  have E1 := hide (And.intro q3 (HR.out a c' _ hc (ownF_far (p := w.heap.size) ho2 hg (fun e => by have := (World.ownsRow.lt ho _ e).1; omega)) (hf.gb hg (fun x e => by have := hx x e; intro e2; injection e2 with e2; omega)) (fun x e => by have := hx x e; omega) ((HA1.out.trans (hb.mono (by omega))).grown hg (by omega) (fun k e => by injection e with e; omega))))
  have z0 : w1.cell? ⟨w.heap.size, 0, none⟩ = some (.int .i64 0) := j2.cell rfl
  have z1 : w1.cell? ⟨w.heap.size, 1, none⟩ = some (.slice none 0 0) := j2.cell rfl
  have z2 : w1.cell? ⟨w.heap.size, 2, none⟩ = some (.int .u64 0) := j2.cell rfl
  have z3 : w1.cell? ⟨w.heap.size, 3, none⟩ = some (.int .u64 0) := j2.cell rfl
  have z4 : w1.cell? ⟨w.heap.size, 4, none⟩ = some (.int .u64 0) := j2.cell rfl
  have z5 : w1.cell? ⟨w.heap.size, 5, none⟩ = some (.int .u64 0) := j2.cell rfl
  have y0 := j2.free 0
  have y1 := j2.free 1
  have y2 := j2.free 2
  have y3 := j2.free 3
  have y4 := j2.free 4
  have y5 := j2.free 5
  clear C HA1 K2 HS1 ho2 ho hb hf hx j2 q3 hg HR hsz1 hsz2 c3 c4 c5 c6 c7 c8
  go_wp2
  refine bodyPost_ret (mview_results E1.out.1 _ rfl) rfl ?_
  exact E1.out.2
end Go.Proofs.YtcahlmneancapaaGreatDoor.Clep

/- A Disk, and a Manifest over it, beside what a statement began with: what each call leaves of them. Conditions: those of the calls. -/
namespace Go.Proofs.YtcahlmneancapaaGreatDoor.Clep
open Go.RowKit Go.Maps Go.Sort
set_option linter.unusedVariables false
set_option maxRecDepth 10000

theorem field_F (w : World) (A B C D E : Int) (a : Option Addr) (n c : Nat) : (Instr.field 31 (.agg #[.int .i64 A, .slice a n c, .int .u64 B, .int .u64 C, .int .u64 D, .int .u64 E]) 2).run Tryz.prog w = .ok (.int .u64 B) w := by kernel_rfl
theorem field_L (w : World) (A B C D E : Int) (a : Option Addr) (n c : Nat) : (Instr.field 31 (.agg #[.int .i64 A, .slice a n c, .int .u64 B, .int .u64 C, .int .u64 D, .int .u64 E]) 0).run Tryz.prog w = .ok (.int .i64 A) w := by kernel_rfl
/-- The Disk at R, beside all that was there ahead. -/
def Bd (w0 w : World) (R : Nat) (S : St) : Prop := (∃ F : Nat → Prop, Held F w R S ∧ ∀ i, i < w0.heap.size → F i) ∧ Below w0.heap.size w0 w
/-- And a Manifest over it. -/
structure Bm (w0 w : World) (M R n c : Nat) (V : Vw) (br : Bool) (S : St) : Prop where
  ma : ∃ F : Nat → Prop, Ma F w M R n c V br S ∧ ∀ i, i < w0.heap.size → F i
  bel : Below w0.heap.size w0 w
  low : w0.heap.size ≤ M
theorem Bm.bd {w0 w : World} {M R n c : Nat} {V : Vw} {br : Bool} {S : St} (h : Bm w0 w M R n c V br S) : Bd w0 w R S := by
  obtain ⟨F, m, hF⟩ := h.ma
  exact ⟨⟨F, m.held, hF⟩, h.bel⟩
theorem Bd.below {w0 w w' : World} {R : Nat} {S : St} (h : Bd w0 w R S) (hb : Below w.heap.size w w') : Bd w0 w' R S := by
  obtain ⟨⟨F, m, hF⟩, hw⟩ := h
  exact ⟨⟨F, (m.same hb).1, hF⟩, bmore hw hb⟩
theorem Bm.below {w0 w w' : World} {M R n c : Nat} {V : Vw} {br : Bool} {S : St} (h : Bm w0 w M R n c V br S) (hb : Below w.heap.size w w') : Bm w0 w' M R n c V br S := by
  obtain ⟨F, m, hF⟩ := h.ma
  exact ⟨⟨F, m.below hb, hF⟩, bmore h.bel hb, h.low⟩
theorem Bd.disk {w0 w w' : World} {R : Nat} {S S' : St} {F : Nat → Prop} (hF : ∀ i, i < w0.heap.size → F i) (h : Below w0.heap.size w0 w) (hh : Held F w' R S') (hs : Same F w w') : Bd w0 w' R S' := ⟨⟨F, hh, hF⟩, h.trans (hs.below hF)⟩
theorem Bm.disk {w0 w w' : World} {M R n c : Nat} {V : Vw} {br : Bool} {S S' : St} {F : Nat → Prop} (m : Ma F w M R n c V br S) (hF : ∀ i, i < w0.heap.size → F i) (h : Below w0.heap.size w0 w) (hl : w0.heap.size ≤ M) (hh : Held F w' R S') (hs : Same F w w') : Bm w0 w' M R n c V br S' := ⟨⟨F, m.disk hh hs, hF⟩, h.trans (hs.below hF), hl⟩
theorem bd_new (q : Nat) (w : World) (hq : q ≤ 9223372036854775807) (n : Int) (hn : n = q) :
    Calls Tryz.prog 9 #[.int .i64 n] w fun e w' => ∃ R, e = .returned (.pointer (some ⟨R, 0, none⟩)) ∧ Bd w w' R (newS q) := by
  refine (new_h q w hq n hn).mono ?_
  rintro e w' ⟨R, rfl, h, hb⟩
  exact ⟨R, rfl, ⟨_, h, fun i hi => hi⟩, hb⟩
theorem bm_new {w0 w : World} {R q : Nat} {S' : St} (fa : Option Addr) (fn fc : Nat) (V : Vw) (hd : Bd w0 w R (newS q)) (h : Fs w fa fn fc V.f) (hc : fc ≤ 9223372036854775807) (hv : vok V = true) (hu : Vnn V) (hN : NewOk leB q (whB V) S') :
    Calls Tryz.prog 10 #[.pointer (some ⟨R, 0, none⟩), vwV fa fn fc V] w fun e w' => ∃ M, e = .returned (.tuple #[.pointer (some ⟨M, 0, none⟩), .int .i64 0]) ∧ Bm w0 w' M R 1 1 V false S' := by
  obtain ⟨⟨F, m, hF⟩, hw⟩ := hd
  refine (mnew_any fa fn fc V w m h hc hv hu hN).mono ?_
  rintro e w' ⟨M, F', h1, rfl, h2, h3, h4⟩
  exact ⟨M, rfl, ⟨F', h3, fun i hi => h1 i (hF i hi)⟩, hw.trans (h4.below hF), Nat.le_trans hw.size h2⟩
theorem bm_save {w0 w : World} {M R n c : Nat} {V : Vw} {S : St} (h : Bm w0 w M R n c V false S) (da aa : Option Addr) (dn dc an ac : Nat) (E : Ed) (hzd : Zs w da dn dc E.d) (hfa : Fs w aa an ac E.a) (hdn : dn ≤ 60) (han : an ≤ 60) (hu : 0 ≤ E.fl ∧ 0 ≤ E.ct ∧ 0 ≤ E.at9 ∧ 0 ≤ E.ls)
    (hV : vok V = true) (h1 : 1 ≤ n) (h2 : n < 100) (hc : c ≤ 1000000) (hm : S.calls < 274877906944) :
    Calls Tryz.prog 11 #[.pointer (some ⟨M, 0, none⟩), edV da dn dc aa an ac E] w fun e w' => (emay E ≠ 0 ∨ appl V E = none → e = .returned (.int .i64 1) ∧ Bm w0 w' M R n c V false S) ∧
      (∀ U, emay E = 0 → appl V E = some U → ∃ E1 ph S', saveS S (mnm n) (fr 6 (ebd E)) = (E1, ph, S') ∧ e = .returned (.int .i64 (E1 : Nat)) ∧ Bm w0 w' M R n (if ph = 0 then c else c + 1) (if ph = 0 then V else U) (decide (ph = 1)) S') := by
  obtain ⟨F, m, hF⟩ := h.ma
  refine (msave_any m da aa dn dc an ac E hzd hfa hdn han hu (good_once (.inr hV)) h1 h2 hc hm).mono ?_
  rintro e w' ⟨q1, q2⟩
  refine ⟨fun hb => ?_, fun U a b => ?_⟩
  · obtain ⟨e1, hb⟩ := q1 hb
    exact ⟨e1, h.below hb⟩
  · obtain ⟨E1, ph, S', r1, r2, r3, F', r4, r5⟩ := q2 U a b
    have hl := h.low
    exact ⟨E1, ph, S', r1, r2, ⟨F', r5, fun i hi => r4 i (hF i hi)⟩, h.bel.trans (r3.below (fun i hi => ⟨hF i hi, by omega⟩)), h.low⟩
theorem bm_save_broken {w0 w : World} {M R n c : Nat} {V : Vw} {S : St} (h : Bm w0 w M R n c V true S) (da aa : Option Addr) (dn dc an ac : Nat) (E : Ed) :
    Calls Tryz.prog 11 #[.pointer (some ⟨M, 0, none⟩), edV da dn dc aa an ac E] w fun e w' => e = .returned (.int .i64 14) ∧ Bm w0 w' M R n c V true S := by
  obtain ⟨F, m, hF⟩ := h.ma
  refine (msave_broken m da aa dn dc an ac E).mono ?_
  rintro e w' ⟨rfl, hb⟩
  exact ⟨rfl, h.below hb⟩
theorem bm_rewrite {w0 w : World} {M R n c T : Nat} {V : Vw} {S : St} {X : List Int} {L : Nat} (h : Bm w0 w M R n c V false S) (D : Dk S T) (so : Solo leB S n X L) (hT : lk S.names (mnm T) ≠ 0) (hV : vok V = true) (hu : Vnn V) (hd : S.dead = false) (h6 : T + 1 ≤ 60) (hq : tot S + 1334 ≤ 250000) (hq2 : tot S + 1334 ≤ S.q) (hm : S.calls < 68719476736) :
    Calls Tryz.prog 28 #[.pointer (some ⟨M, 0, none⟩)] w fun e w' => ∃ E ph S', renewS S (nextS S) (whB V) (leB (nextS S)) = (E, ph, S') ∧ e = .returned (.int .i64 (E : Nat)) ∧ Bm w0 w' M R (if ph = 0 then n else nextS S) (if ph = 0 then c else 1) V (decide (ph = 1)) S' := by
  obtain ⟨F, m, hF⟩ := h.ma
  obtain ⟨s1, s2, s3⟩ := mp_steps (V := V) D so hT (whB_facts (whole_may hV hu)).2 hd h6 hq hq2
  refine (mrewrite_any m D hV hu hm s1 s2 s3).mono ?_
  rintro e w' ⟨E, ph, S', q1, rfl, q3, q4⟩
  have hl := h.low
  exact ⟨E, ph, S', q1, rfl, ⟨F, q3, hF⟩, h.bel.trans (q4.below (fun i hi => ⟨hF i hi, by omega⟩)), h.low⟩
theorem bm_rewrite_dead {w0 w : World} {M R n c T : Nat} {V : Vw} {S : St} (h : Bm w0 w M R n c V false S) (D : Dk S T) (hV : vok V = true) (hu : Vnn V) (hd : S.dead = true) (hm : S.calls < 68719476736) :
    Calls Tryz.prog 28 #[.pointer (some ⟨M, 0, none⟩)] w fun e w' => e = .returned (.int .i64 50) ∧ Bm w0 w' M R n c V false { S with calls := S.calls + 1 } := by
  obtain ⟨F, m, hF⟩ := h.ma
  have hn : nextS S = 1 := next_dead hd
  have hr := renew_dead (W := whB V) (Z := leB 1) hd (show 1 < 100 by decide)
  refine (mrewrite_any m D hV hu hm (by rw [hn]; decide) (fun E1 S1 e1 => ?_) (fun S4 e4 => ?_)).mono ?_
  · rw [hn] at e1
    have hb : beginS S = (50, { S with calls := S.calls + 1 }) := by unfold beginS; rw [if_pos hd]
    have h1 : createS S (mnm 1) = (50, { S with calls := S.calls + 1 }) := by
      unfold createS
      rw [if_neg (by decide), hb, if_pos (show (50 : Nat) ≠ 0 by decide)]
    unfold layS at e1
    rw [h1] at e1
    injection e1 with _ e1
    subst e1
    exact ⟨T, (Eqf.mk rfl rfl rfl rfl rfl rfl : Eqf S { S with calls := S.calls + 1 }).dk D⟩
  · exfalso
    rw [hn] at e4
    have : renewS S 1 (whB V) (leB 1) = (0, 2, sweepL 1 (if S4.dead then [] else namesL S4) S4) := by unfold renewS; rw [e4]; rfl
    rw [hr] at this
    injection this with h1 _
    cases h1
  rintro e w' ⟨E, ph, S', q1, rfl, q3, q4⟩
  rw [hn, hr] at q1
  injection q1 with r1 r2
  injection r2 with r2 r3
  subst r1 r2 r3
  have hl := h.low
  exact ⟨rfl, ⟨F, q3, hF⟩, h.bel.trans (q4.below (fun i hi => ⟨hF i hi, by omega⟩)), h.low⟩
theorem bm_rewrite_broken {w0 w : World} {M R n c : Nat} {V : Vw} {S : St} (h : Bm w0 w M R n c V true S) :
    Calls Tryz.prog 28 #[.pointer (some ⟨M, 0, none⟩)] w fun e w' => e = .returned (.int .i64 14) ∧ w' = w := by
  obtain ⟨F, m, hF⟩ := h.ma
  exact mrewrite_broken m
theorem bm_view {w0 w : World} {M R n c : Nat} {V : Vw} {br : Bool} {S : St} (h : Bm w0 w M R n c V br S) (hn : V.f.length ≤ 100000) :
    Calls Tryz.prog 15 #[.pointer (some ⟨M, 0, none⟩)] w fun e w' => ∃ a c', e = .returned (vwV a V.f.length c' V) ∧ c' ≤ 9223372036854775807 ∧ Fs w' a V.f.length c' V.f ∧ Bm w0 w' M R n c V br S ∧ Below w.heap.size w w' := by
  obtain ⟨F, m, hF⟩ := h.ma
  refine (mview_any m hn).mono ?_
  rintro e w' ⟨a, c', rfl, h1, -, h2, -, hb⟩
  exact ⟨a, c', rfl, h1, h2, h.below hb, hb⟩
theorem bm_name {w0 w : World} {M R n c : Nat} {V : Vw} {br : Bool} {S : St} (h : Bm w0 w M R n c V br S) (h1 : 1 ≤ n) (h2 : n < 100) : Calls Tryz.prog 19 #[.pointer (some ⟨M, 0, none⟩)] w fun e w' => e = .returned (.string (mnm n)) ∧ w' = w := by
  obtain ⟨F, m, hF⟩ := h.ma
  exact mname_any m h1 h2
theorem bm_count {w0 w : World} {M R n c : Nat} {V : Vw} {br : Bool} {S : St} (h : Bm w0 w M R n c V br S) : Calls Tryz.prog 13 #[.pointer (some ⟨M, 0, none⟩)] w fun e w' => e = .returned (.int .i64 c) ∧ w' = w := by
  obtain ⟨F, m, hF⟩ := h.ma
  exact mcount_any m
theorem bm_broken {w0 w : World} {M R n c : Nat} {V : Vw} {br : Bool} {S : St} (h : Bm w0 w M R n c V br S) : Calls Tryz.prog 30 #[.pointer (some ⟨M, 0, none⟩)] w fun e w' => e = .returned (.bool br) ∧ w' = w := by
  obtain ⟨F, m, hF⟩ := h.ma
  exact mbroken_any m
/-- Open, where current leads to a log that is whole and not long. -/
theorem bd_open_go {w0 w : World} {R n T k : Nat} {S : St} {X : List Int} {L : Nat} {V : Vw} (h : Bd w0 w R S) (D : Dk S T) (hT : lk S.names (mnm T) ≠ 0) (hd : S.dead = false) (so : Solo leB S n X L) (hr : rpE X = some (V, k)) (hu : Vnn V) (h6 : T + 1 ≤ 60) (hq : tot S + 1334 ≤ 250000) (hq2 : tot S + 1334 ≤ S.q) (hm : S.calls < 68719476736) :
    Calls Tryz.prog 12 #[.pointer (some ⟨R, 0, none⟩)] w fun e w' =>
      (k = X.length ∧ (SP (X.take k)).1.length ≤ 30 → ∃ M, e = .returned (.tuple #[.pointer (some ⟨M, 0, none⟩), .int .i64 0]) ∧ Bm w0 w' M R n (SP (X.take k)).1.length V false S ∧ Below w.heap.size w w') ∧
      (¬ (k = X.length ∧ (SP (X.take k)).1.length ≤ 30) → ∃ E ph S', renewS S (nextS S) (whB V) (leB (nextS S)) = (E, ph, S') ∧ Bd w0 w' R S' ∧ (E ≠ 0 → e = .returned (.tuple #[.pointer none, .int .i64 (E : Nat)])) ∧
        (E = 0 → ∃ M, e = .returned (.tuple #[.pointer (some ⟨M, 0, none⟩), .int .i64 0]) ∧ Bm w0 w' M R (if ph = 0 then n else nextS S) (if ph = 0 then (SP (X.take k)).1.length else 1) V (decide (ph = 1)) S')) := by
  obtain ⟨⟨F, m, hF⟩, hw⟩ := h
  obtain ⟨r1, r2⟩ := solo_reads D hd so
  obtain ⟨-, -, hvk⟩ := rpE_le hr
  obtain ⟨s1, s2, s3⟩ := mp_steps (V := V) D so hT (whB_facts (whole_may hvk hu)).2 hd h6 hq hq2
  refine (open_any m D r1 (ldP_leB so.low.1 so.low.2) so.low.1 so.low.2 r2 hr hu hm s1 s2 s3).mono ?_
  rintro e w' ⟨q1, q2⟩
  refine ⟨fun hc => ?_, fun hc => ?_⟩
  · obtain ⟨M, F', f1, rfl, f2, f3, f4⟩ := q1 ⟨decide_eq_true hc.1, hc.2⟩
    exact ⟨M, rfl, ⟨⟨F', f2, fun i hi => f1 i (hF i hi)⟩, bmore hw f3, Nat.le_trans hw.size f4⟩, f3⟩
  · obtain ⟨E, ph, S', f1, f2, f3, f4, f5⟩ := q2 (fun h => hc ⟨of_decide_eq_true h.1, h.2⟩)
    have hb : Below w0.heap.size w0 w' := hw.trans (f2.below hF)
    refine ⟨E, ph, S', f1, ⟨⟨F, f3, hF⟩, hb⟩, f4, fun hE => ?_⟩
    obtain ⟨M, F', g1, g2, g3, g4⟩ := f5 hE
    exact ⟨M, g2, ⟨F', g3, fun i hi => g1 i (hF i hi)⟩, hb, Nat.le_trans hw.size g4⟩

end Go.Proofs.YtcahlmneancapaaGreatDoor.Clep

/- A Disk, and a Manifest over it, beside blocks K that others hold: what each call leaves of them. Conditions: those of the calls. -/
namespace Go.Proofs.YtcahlmneancapaaGreatDoor.Clep
open Go.RowKit Go.Maps Go.Sort
set_option linter.unusedVariables false
set_option maxRecDepth 10000

/-- The Disk at R; the blocks of K are not its own. -/
def Kd (K : Nat → Prop) (w : World) (R : Nat) (S : St) : Prop := ∃ F : Nat → Prop, Held F w R S ∧ ∀ i, K i → F i
/-- And a Manifest over it. -/
structure Km (K : Nat → Prop) (w : World) (M R n c : Nat) (V : Vw) (br : Bool) (S : St) : Prop where
  ma : ∃ F : Nat → Prop, Ma F w M R n c V br S ∧ ∀ i, K i → F i
  low : ¬ K M
theorem Held.thin {F G : Nat → Prop} {w : World} {R : Nat} {S : St} (h : Held F w R S) (hG : ∀ i, G i → F i) : Held G w R S := by
  obtain ⟨g, D, hF⟩ := h
  exact ⟨g, D, fun i hi => hF i (hG i hi)⟩
theorem Km.kd {K : Nat → Prop} {w : World} {M R n c : Nat} {V : Vw} {br : Bool} {S : St} (h : Km K w M R n c V br S) : Kd K w R S := by
  obtain ⟨F, m, hF⟩ := h.ma
  exact ⟨F, m.held, hF⟩
theorem Km.lt {K : Nat → Prop} {w : World} {M R n c : Nat} {V : Vw} {br : Bool} {S : St} (h : Km K w M R n c V br S) {i : Nat} (hi : K i) : i < w.heap.size := by
  obtain ⟨F, m, hF⟩ := h.ma
  exact m.held.lt (hF i hi)
theorem Kd.lt {K : Nat → Prop} {w : World} {R : Nat} {S : St} (h : Kd K w R S) {i : Nat} (hi : K i) : i < w.heap.size := by
  obtain ⟨F, m, hF⟩ := h
  exact m.lt (hF i hi)
theorem Kd.below {K : Nat → Prop} {w w' : World} {R : Nat} {S : St} (h : Kd K w R S) (hb : Below w.heap.size w w') : Kd K w' R S := by
  obtain ⟨F, m, hF⟩ := h
  exact ⟨F, (m.same hb).1, hF⟩
theorem Km.below {K : Nat → Prop} {w w' : World} {M R n c : Nat} {V : Vw} {br : Bool} {S : St} (h : Km K w M R n c V br S) (hb : Below w.heap.size w w') : Km K w' M R n c V br S := by
  obtain ⟨F, m, hF⟩ := h.ma
  exact ⟨⟨F, m.below hb, hF⟩, h.low⟩
theorem Kd.same {K : Nat → Prop} {w w' : World} {R : Nat} {S : St} (h : Kd K w R S) (hb : Below w.heap.size w w') : Same K w w' := same_of hb (fun i hi => h.lt hi)
theorem Km.same {K : Nat → Prop} {w w' : World} {M R n c : Nat} {V : Vw} {br : Bool} {S : St} (h : Km K w M R n c V br S) (hb : Below w.heap.size w w') : Same K w w' := same_of hb (fun i hi => h.lt hi)
theorem Kd.thin {K G : Nat → Prop} {w : World} {R : Nat} {S : St} (h : Kd K w R S) (hG : ∀ i, G i → K i) : Kd G w R S := by
  obtain ⟨F, m, hF⟩ := h
  exact ⟨F, m, fun i hi => hF i (hG i hi)⟩
theorem Km.thin {K G : Nat → Prop} {w : World} {M R n c : Nat} {V : Vw} {br : Bool} {S : St} (h : Km K w M R n c V br S) (hG : ∀ i, G i → K i) : Km G w M R n c V br S := by
  obtain ⟨F, m, hF⟩ := h.ma
  exact ⟨⟨F, m, fun i hi => hF i (hG i hi)⟩, fun h2 => h.low (hG _ h2)⟩
/-- A new block is kept, too. -/
theorem Km.more {K : Nat → Prop} {w : World} {M R n c : Nat} {V : Vw} {br : Bool} {S : St} (h : Km K w M R n c V br S) (o : Obj) : Km (fun i => K i ∨ i = w.heap.size) (w.alloc o) M R n c V br S := by
  obtain ⟨F, m, hF⟩ := h.ma
  have hlt := m.lt
  exact ⟨⟨_, m.more o, fun i hi => hi.imp (hF i) id⟩, fun h2 => h2.elim h.low (fun h => by omega)⟩
/-- What a call left behind is kept, too. -/
theorem Km.wide {K : Nat → Prop} {w w' : World} {M R n c : Nat} {V : Vw} {br : Bool} {S : St} (h : Km K w M R n c V br S) (hb : Below w.heap.size w w') : Km (fun i => K i ∨ (w.heap.size ≤ i ∧ i < w'.heap.size)) w' M R n c V br S := by
  obtain ⟨F, m, hF⟩ := h.ma
  have hlt := m.lt
  exact ⟨⟨_, m.wide hb, fun i hi => hi.imp (hF i) id⟩, fun h2 => h2.elim h.low (fun h => by omega)⟩
theorem Kd.wide {K : Nat → Prop} {w w' : World} {R : Nat} {S : St} (h : Kd K w R S) (hb : Below w.heap.size w w') : Kd (fun i => K i ∨ (w.heap.size ≤ i ∧ i < w'.heap.size)) w' R S := by
  obtain ⟨F, m, hF⟩ := h
  exact ⟨_, m.wide hb, fun i hi => hi.imp (hF i) id⟩
/-- A kept block is written; the manifest has no files. -/
theorem Km.set0 {K : Nat → Prop} {w : World} {M R n c : Nat} {V : Vw} {br : Bool} {S : St} (h : Km K w M R n c V br S) (hV : V.f = []) (a : Addr) (v : Value) (ha : K a.block) : Km K (w.setCell a v) M R n c V br S := by
  obtain ⟨F, m, hF⟩ := h.ma
  have hne : M ≠ a.block := fun e => h.low (e ▸ ha)
  have hc : Ch (· = a.block) w (w.setCell a v) := Ch.set w a v rfl
  obtain ⟨b, fc, h1, h2, h3, h4⟩ := m.blk
  have hh := (m.held.ch (hc.mono (Q := F) (fun i _ hi => by subst hi; exact hF _ ha))).thin (G := F) (fun i hi => .inl hi)
  refine ⟨⟨F, ⟨⟨b, fc, h1.ch hc (fun e => hne e), ?_, h3, h4⟩, hh, m.own⟩, hF⟩, h.low⟩
  rw [hV] at h2 ⊢
  exact ⟨h2.1, h2.2.1, h2.2.2.1, fun h0 => by simp at h0⟩
theorem kd_new (q : Nat) (w : World) (hq : q ≤ 9223372036854775807) (n : Int) (hn : n = q) :
    Calls Tryz.prog 9 #[.int .i64 n] w fun e w' => ∃ R, e = .returned (.pointer (some ⟨R, 0, none⟩)) ∧ Kd (· < w.heap.size) w' R (newS q) ∧ Same (· < w.heap.size) w w' := by
  refine (new_h q w hq n hn).mono ?_
  rintro e w' ⟨R, rfl, h, hb⟩
  exact ⟨R, rfl, ⟨_, h, fun i hi => hi⟩, same_of hb (fun i hi => hi)⟩
theorem km_new {K : Nat → Prop} {w : World} {R q : Nat} {S' : St} (fa : Option Addr) (fn fc : Nat) (V : Vw) (hd : Kd K w R (newS q)) (h : Fs w fa fn fc V.f) (hc : fc ≤ 9223372036854775807) (hv : vok V = true) (hu : Vnn V) (hN : NewOk leB q (whB V) S') :
    Calls Tryz.prog 10 #[.pointer (some ⟨R, 0, none⟩), vwV fa fn fc V] w fun e w' => ∃ M, e = .returned (.tuple #[.pointer (some ⟨M, 0, none⟩), .int .i64 0]) ∧ Km K w' M R 1 1 V false S' ∧ Same K w w' ∧ w.heap.size ≤ M := by
  have hlt := fun i (hi : K i) => hd.lt hi
  obtain ⟨F, m, hF⟩ := hd
  refine (mnew_any fa fn fc V w m h hc hv hu hN).mono ?_
  rintro e w' ⟨M, F', h1, rfl, h2, h3, h4⟩
  exact ⟨M, rfl, ⟨⟨F', h3, fun i hi => h1 i (hF i hi)⟩, fun hK => by have := hlt _ hK; omega⟩, h4.mono hF, h2⟩
theorem km_save {K : Nat → Prop} {w : World} {M R n c : Nat} {V : Vw} {S : St} (h : Km K w M R n c V false S) (da aa : Option Addr) (dn dc an ac : Nat) (E : Ed) (hzd : Zs w da dn dc E.d) (hfa : Fs w aa an ac E.a) (hdn : dn ≤ 60) (han : an ≤ 60) (hu : 0 ≤ E.fl ∧ 0 ≤ E.ct ∧ 0 ≤ E.at9 ∧ 0 ≤ E.ls)
    (hV : vok V = true) (h1 : 1 ≤ n) (h2 : n < 100) (hc : c ≤ 1000000) (hm : S.calls < 274877906944) :
    Calls Tryz.prog 11 #[.pointer (some ⟨M, 0, none⟩), edV da dn dc aa an ac E] w fun e w' => Same K w w' ∧ (emay E ≠ 0 ∨ appl V E = none → e = .returned (.int .i64 1) ∧ Km K w' M R n c V false S) ∧
      (∀ U, emay E = 0 → appl V E = some U → ∃ E1 ph S', saveS S (mnm n) (fr 6 (ebd E)) = (E1, ph, S') ∧ e = .returned (.int .i64 (E1 : Nat)) ∧ Km K w' M R n (if ph = 0 then c else c + 1) (if ph = 0 then V else U) (decide (ph = 1)) S') := by
  have hlt := fun i (hi : K i) => h.lt hi
  have hlow := h.low
  obtain ⟨F, m, hF⟩ := h.ma
  refine (msave_any m da aa dn dc an ac E hzd hfa hdn han hu (good_once (.inr hV)) h1 h2 hc hm).mono ?_
  rintro e w' ⟨q1, q2⟩
  by_cases hb : emay E ≠ 0 ∨ appl V E = none
  · obtain ⟨e1, hb2⟩ := q1 hb
    refine ⟨same_of hb2 hlt, fun _ => ⟨e1, h.below hb2⟩, fun U a b => ?_⟩
    exfalso
    rcases hb with h | h
    · exact h a
    · rw [h] at b; cases b
  · have a : emay E = 0 := Classical.byContradiction fun h => hb (.inl h)
    cases hap : appl V E with
    | none => exact absurd (Or.inr hap) hb
    | some U =>
      obtain ⟨E1, ph, S', r1, r2, r3, F', r4, r5⟩ := q2 U a hap
      refine ⟨r3.mono fun i hi => ⟨hF i hi, fun e => hlow (e ▸ hi)⟩, fun hx => ?_, fun U' _ b => ?_⟩
      · exfalso; rcases hx with hx | hx
        · exact hx a
        · cases hx
      injection b with b
      subst b
      exact ⟨E1, ph, S', r1, r2, ⟨F', r5, fun i hi => r4 i (hF i hi)⟩, hlow⟩
theorem km_save_broken {K : Nat → Prop} {w : World} {M R n c : Nat} {V : Vw} {S : St} (h : Km K w M R n c V true S) (da aa : Option Addr) (dn dc an ac : Nat) (E : Ed) :
    Calls Tryz.prog 11 #[.pointer (some ⟨M, 0, none⟩), edV da dn dc aa an ac E] w fun e w' => e = .returned (.int .i64 14) ∧ Km K w' M R n c V true S ∧ Below w.heap.size w w' := by
  obtain ⟨F, m, hF⟩ := h.ma
  refine (msave_broken m da aa dn dc an ac E).mono ?_
  rintro e w' ⟨rfl, hb⟩
  exact ⟨rfl, h.below hb, hb⟩
theorem km_rewrite {K : Nat → Prop} {w : World} {M R n c T : Nat} {V : Vw} {S : St} {X : List Int} {L : Nat} (h : Km K w M R n c V false S) (D : Dk S T) (so : Solo leB S n X L) (hT : lk S.names (mnm T) ≠ 0) (hV : vok V = true) (hu : Vnn V) (hd : S.dead = false) (h6 : T + 1 ≤ 60) (hq : tot S + 1334 ≤ 250000) (hq2 : tot S + 1334 ≤ S.q) (hm : S.calls < 68719476736) :
    Calls Tryz.prog 28 #[.pointer (some ⟨M, 0, none⟩)] w fun e w' => ∃ E ph S', renewS S (nextS S) (whB V) (leB (nextS S)) = (E, ph, S') ∧ e = .returned (.int .i64 (E : Nat)) ∧ Km K w' M R (if ph = 0 then n else nextS S) (if ph = 0 then c else 1) V (decide (ph = 1)) S' ∧ Same K w w' := by
  have hlow := h.low
  obtain ⟨F, m, hF⟩ := h.ma
  obtain ⟨s1, s2, s3⟩ := mp_steps (V := V) D so hT (whB_facts (whole_may hV hu)).2 hd h6 hq hq2
  refine (mrewrite_any m D hV hu hm s1 s2 s3).mono ?_
  rintro e w' ⟨E, ph, S', q1, rfl, q3, q4⟩
  exact ⟨E, ph, S', q1, rfl, ⟨⟨F, q3, hF⟩, hlow⟩, q4.mono fun i hi => ⟨hF i hi, fun e => hlow (e ▸ hi)⟩⟩
theorem km_rewrite_dead {K : Nat → Prop} {w : World} {M R n c T : Nat} {V : Vw} {S : St} (h : Km K w M R n c V false S) (D : Dk S T) (hV : vok V = true) (hu : Vnn V) (hd : S.dead = true) (hm : S.calls < 68719476736) :
    Calls Tryz.prog 28 #[.pointer (some ⟨M, 0, none⟩)] w fun e w' => e = .returned (.int .i64 50) ∧ Km K w' M R n c V false { S with calls := S.calls + 1 } ∧ Same K w w' := by
  have hlow := h.low
  obtain ⟨F, m, hF⟩ := h.ma
  have hn : nextS S = 1 := next_dead hd
  have hr := renew_dead (W := whB V) (Z := leB 1) hd (show 1 < 100 by decide)
  refine (mrewrite_any m D hV hu hm (by rw [hn]; decide) (fun E1 S1 e1 => ?_) (fun S4 e4 => ?_)).mono ?_
  · rw [hn] at e1
    have hb : beginS S = (50, { S with calls := S.calls + 1 }) := by unfold beginS; rw [if_pos hd]
    have h1 : createS S (mnm 1) = (50, { S with calls := S.calls + 1 }) := by
      unfold createS
      rw [if_neg (by decide), hb, if_pos (show (50 : Nat) ≠ 0 by decide)]
    unfold layS at e1
    rw [h1] at e1
    injection e1 with _ e1
    subst e1
    exact ⟨T, (Eqf.mk rfl rfl rfl rfl rfl rfl : Eqf S { S with calls := S.calls + 1 }).dk D⟩
  · exfalso
    rw [hn] at e4
    have : renewS S 1 (whB V) (leB 1) = (0, 2, sweepL 1 (if S4.dead then [] else namesL S4) S4) := by unfold renewS; rw [e4]; rfl
    rw [hr] at this
    injection this with h1 _
    cases h1
  rintro e w' ⟨E, ph, S', q1, rfl, q3, q4⟩
  rw [hn, hr] at q1
  injection q1 with r1 r2
  injection r2 with r2 r3
  subst r1 r2 r3
  exact ⟨rfl, ⟨⟨F, q3, hF⟩, hlow⟩, q4.mono fun i hi => ⟨hF i hi, fun e => hlow (e ▸ hi)⟩⟩
theorem km_rewrite_broken {K : Nat → Prop} {w : World} {M R n c : Nat} {V : Vw} {S : St} (h : Km K w M R n c V true S) :
    Calls Tryz.prog 28 #[.pointer (some ⟨M, 0, none⟩)] w fun e w' => e = .returned (.int .i64 14) ∧ w' = w := by
  obtain ⟨F, m, hF⟩ := h.ma
  exact mrewrite_broken m
theorem km_view {K : Nat → Prop} {w : World} {M R n c : Nat} {V : Vw} {br : Bool} {S : St} (h : Km K w M R n c V br S) (hn : V.f.length ≤ 100000) :
    Calls Tryz.prog 15 #[.pointer (some ⟨M, 0, none⟩)] w fun e w' => ∃ a c', e = .returned (vwV a V.f.length c' V) ∧ c' ≤ 9223372036854775807 ∧ Fs w' a V.f.length c' V.f ∧ Km K w' M R n c V br S ∧ Below w.heap.size w w' := by
  obtain ⟨F, m, hF⟩ := h.ma
  refine (mview_any m hn).mono ?_
  rintro e w' ⟨a, c', rfl, h1, -, h2, -, hb⟩
  exact ⟨a, c', rfl, h1, h2, h.below hb, hb⟩
theorem km_name {K : Nat → Prop} {w : World} {M R n c : Nat} {V : Vw} {br : Bool} {S : St} (h : Km K w M R n c V br S) (h1 : 1 ≤ n) (h2 : n < 100) : Calls Tryz.prog 19 #[.pointer (some ⟨M, 0, none⟩)] w fun e w' => e = .returned (.string (mnm n)) ∧ w' = w := by
  obtain ⟨F, m, hF⟩ := h.ma
  exact mname_any m h1 h2
theorem km_count {K : Nat → Prop} {w : World} {M R n c : Nat} {V : Vw} {br : Bool} {S : St} (h : Km K w M R n c V br S) : Calls Tryz.prog 13 #[.pointer (some ⟨M, 0, none⟩)] w fun e w' => e = .returned (.int .i64 c) ∧ w' = w := by
  obtain ⟨F, m, hF⟩ := h.ma
  exact mcount_any m
theorem km_broken {K : Nat → Prop} {w : World} {M R n c : Nat} {V : Vw} {br : Bool} {S : St} (h : Km K w M R n c V br S) : Calls Tryz.prog 30 #[.pointer (some ⟨M, 0, none⟩)] w fun e w' => e = .returned (.bool br) ∧ w' = w := by
  obtain ⟨F, m, hF⟩ := h.ma
  exact mbroken_any m
/-- Open, where current leads to a log that reads as a View. -/
theorem kd_open_go {K : Nat → Prop} {w : World} {R n T k : Nat} {S : St} {X : List Int} {L : Nat} {V : Vw} (h : Kd K w R S) (D : Dk S T) (hT : lk S.names (mnm T) ≠ 0) (hd : S.dead = false) (so : Solo leB S n X L) (hr : rpE X = some (V, k)) (hu : Vnn V) (h6 : T + 1 ≤ 60) (hq : tot S + 1334 ≤ 250000) (hq2 : tot S + 1334 ≤ S.q) (hm : S.calls < 68719476736) :
    Calls Tryz.prog 12 #[.pointer (some ⟨R, 0, none⟩)] w fun e w' => Same K w w' ∧
      (k = X.length ∧ (SP (X.take k)).1.length ≤ 30 → ∃ M, e = .returned (.tuple #[.pointer (some ⟨M, 0, none⟩), .int .i64 0]) ∧ Km K w' M R n (SP (X.take k)).1.length V false S ∧ Below w.heap.size w w' ∧ w.heap.size ≤ M) ∧
      (¬ (k = X.length ∧ (SP (X.take k)).1.length ≤ 30) → ∃ E ph S', renewS S (nextS S) (whB V) (leB (nextS S)) = (E, ph, S') ∧ Kd K w' R S' ∧ (E ≠ 0 → e = .returned (.tuple #[.pointer none, .int .i64 (E : Nat)])) ∧
        (E = 0 → ∃ M, e = .returned (.tuple #[.pointer (some ⟨M, 0, none⟩), .int .i64 0]) ∧ Km K w' M R (if ph = 0 then n else nextS S) (if ph = 0 then (SP (X.take k)).1.length else 1) V (decide (ph = 1)) S' ∧ w.heap.size ≤ M)) := by
  have hlt := fun i (hi : K i) => h.lt hi
  obtain ⟨F, m, hF⟩ := h
  obtain ⟨r1, r2⟩ := solo_reads D hd so
  obtain ⟨-, -, hvk⟩ := rpE_le hr
  obtain ⟨s1, s2, s3⟩ := mp_steps (V := V) D so hT (whB_facts (whole_may hvk hu)).2 hd h6 hq hq2
  refine (open_any m D r1 (ldP_leB so.low.1 so.low.2) so.low.1 so.low.2 r2 hr hu hm s1 s2 s3).mono ?_
  rintro e w' ⟨q1, q2⟩
  by_cases hc : k = X.length ∧ (SP (X.take k)).1.length ≤ 30
  · obtain ⟨M, F', f1, rfl, f2, f3, f4⟩ := q1 ⟨decide_eq_true hc.1, hc.2⟩
    exact ⟨same_of f3 hlt, fun _ => ⟨M, rfl, ⟨⟨F', f2, fun i hi => f1 i (hF i hi)⟩, fun hK => by have := hlt _ hK; omega⟩, f3, f4⟩, fun h => absurd hc h⟩
  · obtain ⟨E, ph, S', f1, f2, f3, f4, f5⟩ := q2 (fun h => hc ⟨of_decide_eq_true h.1, h.2⟩)
    refine ⟨f2.mono hF, fun h => absurd h hc, fun _ => ⟨E, ph, S', f1, ⟨F, f3, hF⟩, f4, fun hE => ?_⟩⟩
    obtain ⟨M, F', g1, g2, g3, g4⟩ := f5 hE
    exact ⟨M, g2, ⟨⟨F', g3, fun i hi => g1 i (hF i hi)⟩, fun hK => by have := hlt _ hK; omega⟩, g4⟩
/-- The Disk's own calls. -/
theorem kd_create {K : Nat → Prop} {w : World} {R : Nat} {S : St} (s : ByteArray) {E : Nat} {S' : St} (e : createS S s = (E, S')) (h : Kd K w R S) (hm : S.calls < 1099511627776) (hs : s.size ≤ 70368744177664) :
    Calls Tryz.prog 21 #[.pointer (some ⟨R, 0, none⟩), .string s] w fun e w' => e = .returned (.int .i64 E) ∧ Kd K w' R S' ∧ Same K w w' := by
  obtain ⟨F, m, hF⟩ := h
  refine (create_h s e m hm hs).mono ?_
  rintro e w' ⟨rfl, h2, h3⟩
  exact ⟨rfl, ⟨F, h2, hF⟩, h3.mono hF⟩
theorem kd_remove {K : Nat → Prop} {w : World} {R : Nat} {S : St} (s : ByteArray) {E : Nat} {S' : St} (e : rmvS S s = (E, S')) (h : Kd K w R S) (hm : S.calls < 1099511627776) (hs : s.size ≤ 70368744177664) :
    Calls Tryz.prog 20 #[.pointer (some ⟨R, 0, none⟩), .string s] w fun e w' => e = .returned (.int .i64 E) ∧ Kd K w' R S' ∧ Same K w w' := by
  obtain ⟨F, m, hF⟩ := h
  refine (remove_h s e m hm hs).mono ?_
  rintro e w' ⟨rfl, h2, h3⟩
  exact ⟨rfl, ⟨F, h2, hF⟩, h3.mono hF⟩
theorem kd_read {K : Nat → Prop} {w : World} {R : Nat} {S : St} (s : ByteArray) {E : Nat} {zs : List Int} (e : readS S s = (E, zs)) (h : Kd K w R S) (hs : s.size ≤ 70368744177664) :
    Calls Tryz.prog 18 #[.pointer (some ⟨R, 0, none⟩), .string s] w fun e w' => ∃ ao cap, e = .returned (.tuple #[.slice ao zs.length cap, .int .i64 E]) ∧ Own w' w.heap.size (.slice ao zs.length cap) zs ∧ Below w.heap.size w w' := by
  obtain ⟨F, m, hF⟩ := h
  refine (read_h s e m hs).mono ?_
  rintro e w' ⟨ao, cap, rfl, h1, h2, h3⟩
  exact ⟨ao, cap, rfl, h1, h3⟩
theorem kd_list {K : Nat → Prop} {R : Nat} {S : St} {T : Nat} {w : World} (h : Kd K w R S) (D : Dk S T) (hm : S.calls ≤ 1099511627776) :
    Calls Tryz.prog 16 #[.pointer (some ⟨R, 0, none⟩)] w fun e w' => ∃ so sc, e = .returned (.slice so (listS S).length sc) ∧ (listS S).length ≤ 62 ∧ Below w.heap.size w w' := by
  obtain ⟨F, m, hF⟩ := h
  refine (mlist_any m D hm).mono ?_
  rintro e w' ⟨so, sc, rfl, h1, -, -, h3⟩
  exact ⟨so, sc, rfl, h1, h3⟩

end Go.Proofs.YtcahlmneancapaaGreatDoor.Clep

/- Edits one behind the other, as a function. No conditions. -/
namespace Go.Proofs.YtcahlmneancapaaGreatDoor.Clep
open Go.RowKit
set_option linter.unusedVariables false
set_option maxRecDepth 10000

end Go.Proofs.YtcahlmneancapaaGreatDoor.Clep

/- Rows of Views and of Edits that a statement makes. No conditions. Written by wip/tools/gen16eds.py. -/
namespace Go.Proofs.YtcahlmneancapaaGreatDoor.Clep
open Go.RowKit
set_option linter.unusedVariables false
set_option maxRecDepth 10000

/-- A View by value: which, and where its files are. -/
structure Vr where
  V : Vw
  a : Option Addr
  c : Nat
def Vr.cs (x : Vr) : List Value := [.int .i64 x.V.lg, .slice x.a x.V.f.length x.c, .int .u64 x.V.fl, .int .u64 x.V.ct, .int .u64 x.V.at9, .int .u64 x.V.ls]
def vcs (l : List Vr) : List Value := l.flatMap Vr.cs
theorem vcs_len (l : List Vr) : (vcs l).length = l.length * 6 := by
  induction l with
  | nil => rfl
  | cons x r ih => simp [vcs, Vr.cs] at ih ⊢; omega
theorem vcs_get (l : List Vr) : ∀ (i j : Nat) (x : Vr), l[i]? = some x → j < 6 → (vcs l)[i * 6 + j]? = x.cs[j]? := by
  induction l with
  | nil => intro i j x h; simp at h
  | cons y r ih =>
    intro i j x h hj
    have e : vcs (y :: r) = y.cs ++ vcs r := by simp [vcs]
    rw [e]
    cases i with
    | zero =>
      simp at h; subst h
      rw [Nat.zero_mul, Nat.zero_add, List.getElem?_append_left (by simp [Vr.cs]; omega)]
    | succ i =>
      simp at h
      rw [List.getElem?_append_right (by simp [Vr.cs]; omega), show (i + 1) * 6 + j - y.cs.length = i * 6 + j from by simp [Vr.cs]; omega]
      exact ih i j x h hj
/-- The slice value v owns the Views l. -/
def OwnV (w : World) (B : Nat) (v : Value) (l : List Vr) : Prop := w.ownsRow B 31 6 v l.length (vcs l)
theorem infoVw : (Tryz.prog.info? 31).map (fun i => (i.zero, i.size, i.bytes)) = some (some (.agg #[.int .i64 0, .slice none 0 0, .int .u64 0, .int .u64 0, .int .u64 0, .int .u64 0]), 6, 64) := by kernel_rfl
/-- One View more behind a row of Views; where the row then is. -/
theorem wpList_append_v {w : World} {ops : Array Oper} {rest : List Oper} {o : Oper} {a : Act} {Q : Exit → Act → World → Prop} (hgd : o.guard = none) (s x : Operand)
    (ho : o.op = .call { callee := .builtin .append, args := #[s, x], argTypes := #[62, 62] })
    (base : Nat) (v : Value) (l : List Vr) (hs : a.eval s = v) (hown : OwnV w base v l) (p : Nat) (z : Vr) (hx : a.eval x = .slice (some ⟨p, 0, none⟩) 1 1) (hp : Ek w p z.cs.toArray 31)
    (hlen : l.length ≤ 100000) (hbase : base ≤ w.heap.size)
    (h : ∀ v' w', OwnV w' base v' (l ++ [z]) → w.grownBy w' v.ownBlock → (∀ k, v.ownBlock = some k → base ≤ k) → (v'.ownBlock = v.ownBlock ∨ v'.ownBlock = some w.heap.size) → wpList Tryz.prog ops Q rest (a.put o.dst v') w') : wpList Tryz.prog ops Q (o :: rest) a w := by
  obtain ⟨i0, hi, hz0, hz1, hz2⟩ := info_parts infoVw
  refine wpList_append_own_at _ hgd s x 62 ho base 31 i0 _ 6 64 Tryz.underlying62 hi hz0 hz1 hz2 rfl (by decide) v l.length (vcs l) hs hown ⟨p, 0, none⟩ 1 1 z.cs hx rfl ?_ ?_ (by unfold maxLen; omega) (by omega) hbase ?_
  · intro j u hu
    rw [add_plain, Nat.zero_add]
    exact hp.cell (by simpa using hu)
  · intro u hu
    simp only [Vr.cs, List.mem_cons, List.not_mem_nil, or_false] at hu
    rcases hu with rfl | rfl | rfl | rfl | rfl | rfl <;> rfl
  · intro v' w' h1 h2 _ h3
    refine h v' w' ?_ h2 (fun k hk => (World.ownsRow.lt hown k hk).1) h3
    unfold OwnV
    rw [List.length_append, show vcs (l ++ [z]) = vcs l ++ z.cs from by simp [vcs]]
    exact h1
def ecs (l : List Er) : List Value := l.flatMap Er.cs
theorem ecs_len (l : List Er) : (ecs l).length = l.length * 7 := by
  induction l with
  | nil => rfl
  | cons x r ih => simp [ecs, Er.cs] at ih ⊢; omega
/-- The slice value v owns the Edits l. -/
def OwnE (w : World) (B : Nat) (v : Value) (l : List Er) : Prop := w.ownsRow B 34 7 v l.length (ecs l)
theorem infoEd : (Tryz.prog.info? 34).map (fun i => (i.zero, i.size, i.bytes)) = some (some (.agg #[.slice none 0 0, .slice none 0 0, .int .i64 0, .int .u64 0, .int .u64 0, .int .u64 0, .int .u64 0]), 7, 88) := by kernel_rfl
/-- One Edit more behind a row of Edits; where the row then is. -/
theorem wpList_append_e {w : World} {ops : Array Oper} {rest : List Oper} {o : Oper} {a : Act} {Q : Exit → Act → World → Prop} (hgd : o.guard = none) (s x : Operand)
    (ho : o.op = .call { callee := .builtin .append, args := #[s, x], argTypes := #[54, 54] })
    (base : Nat) (v : Value) (l : List Er) (hs : a.eval s = v) (hown : OwnE w base v l) (p : Nat) (z : Er) (hx : a.eval x = .slice (some ⟨p, 0, none⟩) 1 1) (hp : Ek w p z.cs.toArray 34)
    (hlen : l.length ≤ 100000) (hbase : base ≤ w.heap.size)
    (h : ∀ v' w', OwnE w' base v' (l ++ [z]) → w.grownBy w' v.ownBlock → (∀ k, v.ownBlock = some k → base ≤ k) → (v'.ownBlock = v.ownBlock ∨ v'.ownBlock = some w.heap.size) → wpList Tryz.prog ops Q rest (a.put o.dst v') w') : wpList Tryz.prog ops Q (o :: rest) a w := by
  obtain ⟨i0, hi, hz0, hz1, hz2⟩ := info_parts infoEd
  refine wpList_append_own_at _ hgd s x 54 ho base 34 i0 _ 7 88 Tryz.underlying54 hi hz0 hz1 hz2 rfl (by decide) v l.length (ecs l) hs hown ⟨p, 0, none⟩ 1 1 z.cs hx rfl ?_ ?_ (by unfold maxLen; omega) (by omega) hbase ?_
  · intro j u hu
    rw [add_plain, Nat.zero_add]
    exact hp.cell (by simpa using hu)
  · intro u hu
    simp only [Er.cs, List.mem_cons, List.not_mem_nil, or_false] at hu
    rcases hu with rfl | rfl | rfl | rfl | rfl | rfl | rfl <;> rfl
  · intro v' w' h1 h2 _ h3
    refine h v' w' ?_ h2 (fun k hk => (World.ownsRow.lt hown k hk).1) h3
    unfold OwnE
    rw [List.length_append, show ecs (l ++ [z]) = ecs l ++ z.cs from by simp [ecs]]
    exact h1
theorem own_one {w : World} {B p size : Nat} {e : TypeId} {cs : Array Value} (h : w.heap[p]? = some (.cells cs e (0, 0))) (hB : B ≤ p) (hs : cs.size = size) : w.ownsRow B e size (.slice (some ⟨p, 0, none⟩) 1 1) 1 cs.toList :=
  ⟨by rw [Array.length_toList]; omega, .inr ⟨p, 1, cs, rfl, hB, h, Nat.le_refl _, by decide, by omega, by rw [List.take_of_length_le]; rw [Array.length_toList]; omega⟩⟩
theorem xrow_keep {w w' : World} {B size n : Nat} {e : TypeId} {v : Value} {xs : List Value} (h : w.ownsRow B e size v n xs) (hb : Below w.heap.size w w') : w'.ownsRow B e size v n xs :=
  World.ownsRow.kept h (fgb_below hb none) (by cases v.ownBlock <;> simp)
/-- What a statement holds between its steps: the View, the row of Views, another row. -/
structure Cg (w W : World) (v6 v7 : Value) (x : Vr) (vs : List Vr) (e7 : TypeId) (z7 n7 : Nat) (xs7 : List Value) : Prop where
  z : Ek W w.heap.size x.cs.toArray 31
  o6 : OwnV W (w.heap.size + 1) v6 vs
  o7 : W.ownsRow (w.heap.size + 1) e7 z7 v7 n7 xs7
  ne : v6.ownBlock = none ∨ v6.ownBlock ≠ v7.ownBlock
  fs : ∀ y, y = x ∨ y ∈ vs → Fs W y.a y.V.f.length y.c y.V.f ∧ y.c ≤ 9223372036854775807
  far : ∀ y, y = x ∨ y ∈ vs → ∀ p, y.a = some p → w.heap.size + 1 ≤ p.block ∧ p.block < W.heap.size ∧ v6.ownBlock ≠ some p.block ∧ v7.ownBlock ≠ some p.block
  bel : Below w.heap.size w W
  sz : w.heap.size + 1 ≤ W.heap.size
section
variable {w W W' : World} {v6 v7 v' : Value} {x x' : Vr} {vs : List Vr} {e7 : TypeId} {z7 n7 m7 : Nat} {xs7 ys7 : List Value}
theorem Cg.keep (h : Cg w W v6 v7 x vs e7 z7 n7 xs7) (hb : Below W.heap.size W W') : Cg w W' v6 v7 x vs e7 z7 n7 xs7 :=
  ⟨h.z.below hb h.z.lt, xrow_keep h.o6 hb, xrow_keep h.o7 hb, h.ne, fun y hy => ⟨(h.fs y hy).1.below hb (Nat.le_refl _), (h.fs y hy).2⟩, fun y hy p hp => by have h1 := h.far y hy p hp; have := hb.size; exact ⟨h1.1, by omega, h1.2.2⟩, h.bel.trans (hb.mono h.bel.size), Nat.le_trans h.sz hb.size⟩
/-- Another View in the variable. -/
theorem Cg.cur (h : Cg w W v6 v7 x vs e7 z7 n7 xs7) (hf : Fs W x'.a x'.V.f.length x'.c x'.V.f ∧ x'.c ≤ 9223372036854775807) (hp : ∀ p, x'.a = some p → w.heap.size + 1 ≤ p.block ∧ p.block < W.heap.size ∧ v6.ownBlock ≠ some p.block ∧ v7.ownBlock ≠ some p.block) :
    Cg w (set6 W w.heap.size (.int .i64 x'.V.lg) (.slice x'.a x'.V.f.length x'.c) (.int .u64 x'.V.fl) (.int .u64 x'.V.ct) (.int .u64 x'.V.at9) (.int .u64 x'.V.ls)) v6 v7 x' vs e7 z7 n7 xs7 := by
  have hg := gset6 W w.heap.size (.int .i64 x'.V.lg) (.slice x'.a x'.V.f.length x'.c) (.int .u64 x'.V.fl) (.int .u64 x'.V.ct) (.int .u64 x'.V.at9) (.int .u64 x'.V.ls)
  have hz := zset h.z h.bel (Nat.le_refl _) (.int .i64 x'.V.lg) (.slice x'.a x'.V.f.length x'.c) (.int .u64 x'.V.fl) (.int .u64 x'.V.ct) (.int .u64 x'.V.at9) (.int .u64 x'.V.ls)
  have hn : ∀ {v : Value} {B n size : Nat} {e : TypeId} {xs : List Value}, W.ownsRow B e size v n xs → w.heap.size + 1 ≤ B → v.ownBlock = none ∨ v.ownBlock ≠ some w.heap.size := fun {v B n size e xs} ho hB => by
    cases hv : v.ownBlock with
    | none => exact .inl rfl
    | some k =>
      right
      intro e2
      have h1 := (World.ownsRow.lt ho k hv).1
      have h2 := Option.some.inj e2
      omega
  have hall : ∀ y, y = x' ∨ y ∈ vs → (Fs W y.a y.V.f.length y.c y.V.f ∧ y.c ≤ 9223372036854775807) ∧ ∀ p, y.a = some p → w.heap.size + 1 ≤ p.block ∧ p.block < W.heap.size ∧ v6.ownBlock ≠ some p.block ∧ v7.ownBlock ≠ some p.block := fun y hy => by
    rcases hy with rfl | hy
    · exact ⟨hf, hp⟩
    · exact ⟨h.fs y (.inr hy), h.far y (.inr hy)⟩
  refine ⟨hz.1, World.ownsRow.kept h.o6 hg (hn h.o6 (Nat.le_refl _)), World.ownsRow.kept h.o7 hg (hn h.o7 (Nat.le_refl _)), h.ne, fun y hy => ⟨(hall y hy).1.1.gb hg (fun p e e2 => ?_), (hall y hy).1.2⟩, fun y hy p e => ?_, hz.2, Nat.le_trans h.sz hg.size⟩
  · have h1 := (hall y hy).2 p e
    have h2 := Option.some.inj e2
    omega
  · have h1 := (hall y hy).2 p e
    have := hg.size
    exact ⟨h1.1, Nat.lt_of_lt_of_le h1.2.1 this, h1.2.2⟩
/-- The View behind the row of Views. -/
theorem Cg.push6 (h : Cg w W v6 v7 x vs e7 z7 n7 xs7) (ho : OwnV W' (w.heap.size + 1) v' (vs ++ [x])) (hg : W.grownBy W' v6.ownBlock) (hl : v'.ownBlock = v6.ownBlock ∨ v'.ownBlock = some W.heap.size) : Cg w W' v' v7 x (vs ++ [x]) e7 z7 n7 xs7 := by
  have hk : ∀ k, v6.ownBlock = some k → w.heap.size + 1 ≤ k := fun k hk => (World.ownsRow.lt h.o6 k hk).1
  have h7 : ∀ k, v7.ownBlock = some k → k < W.heap.size := fun k hk => (World.ownsRow.lt h.o7 k hk).2
  have hall : ∀ y, y = x ∨ y ∈ vs ++ [x] → y = x ∨ y ∈ vs := fun y hy => by
    rcases hy with e | e
    · exact .inl e
    · rcases List.mem_append.1 e with e | e
      · exact .inr e
      · exact .inl (List.mem_singleton.1 e)
  refine ⟨h.z.gb hg (fun e => ?_), ho, World.ownsRow.kept h.o7 hg ?_, ?_, fun y hy => ⟨(h.fs y (hall y hy)).1.gb hg (fun p e e2 => (h.far y (hall y hy) p e).2.2.1 e2.symm), (h.fs y (hall y hy)).2⟩, fun y hy p e => ?_, h.bel.grown hg h.bel.size (fun k e => ?_), Nat.le_trans h.sz hg.size⟩
  · have := hk _ e.symm; omega
  · rcases h.ne with e | e
    · rw [e]; cases v7.ownBlock <;> simp
    · exact .inr (fun e2 => e e2.symm)
  · rcases hl with e | e
    · rw [e]; exact h.ne
    · right
      rw [e]
      intro e2
      have := h7 _ e2.symm
      omega
  · have h1 := h.far y (hall y hy) p e
    have := hg.size
    refine ⟨h1.1, by omega, ?_, h1.2.2.2⟩
    rcases hl with e | e
    · rw [e]; exact h1.2.2.1
    · rw [e]; intro e2; have := Option.some.inj e2; omega
  · have := hk k e; omega
theorem Cg.push7 (h : Cg w W v6 v7 x vs e7 z7 n7 xs7) (ho : W'.ownsRow (w.heap.size + 1) e7 z7 v' m7 ys7) (hg : W.grownBy W' v7.ownBlock) (hl : v'.ownBlock = v7.ownBlock ∨ v'.ownBlock = some W.heap.size) : Cg w W' v6 v' x vs e7 z7 m7 ys7 := by
  have hk : ∀ k, v7.ownBlock = some k → w.heap.size + 1 ≤ k := fun k hk => (World.ownsRow.lt h.o7 k hk).1
  have h6 : ∀ k, v6.ownBlock = some k → k < W.heap.size := fun k hk => (World.ownsRow.lt h.o6 k hk).2
  refine ⟨h.z.gb hg (fun e => ?_), World.ownsRow.kept h.o6 hg h.ne, ho, ?_, fun y hy => ⟨(h.fs y hy).1.gb hg (fun p e e2 => (h.far y hy p e).2.2.2 e2.symm), (h.fs y hy).2⟩, fun y hy p e => ?_, h.bel.grown hg h.bel.size (fun k e => ?_), Nat.le_trans h.sz hg.size⟩
  · have := hk _ e.symm; omega
  · rcases h.ne with e | e
    · exact .inl e
    · rcases hl with e2 | e2
      · rw [e2]; exact .inr e
      · rw [e2]
        right
        intro e3
        have := h6 _ e3
        omega
  · have h1 := h.far y hy p e
    have := hg.size
    refine ⟨h1.1, by omega, h1.2.2.1, ?_⟩
    rcases hl with e | e
    · rw [e]; exact h1.2.2.2
    · rw [e]; intro e2; have := Option.some.inj e2; omega
  · have := hk k e; omega
/-- A new block is no row's. -/
theorem Cg.new (h : Cg w W v6 v7 x vs e7 z7 n7 xs7) {p : Nat} (hp : W.heap.size ≤ p) : v6.ownBlock ≠ some p ∧ v7.ownBlock ≠ some p := ⟨fun e => by have := (World.ownsRow.lt h.o6 p e).2; omega, fun e => by have := (World.ownsRow.lt h.o7 p e).2; omega⟩
end
/-- What a row of Views is like. -/
theorem ownV_form {w : World} {B : Nat} {v : Value} {l : List Vr} (h : OwnV w B v l) (h0 : 0 < l.length) : ∃ g c, v = .slice (some ⟨g, 0, none⟩) l.length c ∧ c ≤ 9223372036854775807 ∧ ∀ (i : Nat) (y : Vr) (j : Nat) (u : Value), l[i]? = some y → y.cs[j]? = some u → w.cell? ⟨g, i * 6 + j, none⟩ = some u := by
  have h1 := h
  obtain ⟨hl, ⟨rfl, hn⟩ | ⟨g, cap, cur, rfl, hg, hh, hnc, hcm, hcs, hx⟩⟩ := h1
  · omega
  · refine ⟨g, cap, rfl, by unfold maxLen at hcm; omega, fun i y j u hi hj => ?_⟩
    have hj6 : j < 6 := by have := (List.getElem?_eq_some_iff.1 hj).1; simpa [Vr.cs] using this
    have hc := World.ownsRow.cells (w := w) (base := B) (e := 31) (size := 6) (v := .slice (some ⟨g, 0, none⟩) l.length cap) (n := l.length) (xs := vcs l) h (g := g) rfl (i * 6 + j) u (by rw [vcs_get l i j y hi hj6]; exact hj)
    rwa [add_plain, Nat.zero_add] at hc
def oneV : Vw := ⟨1, [], 0, 0, 0, 0⟩
/-- The Edits so far, and the Views that they made of the first one. -/
structure Cq (gs : List Er) (vs : List Vr) (x : Vr) : Prop where
  len : vs.length = gs.length + 1
  at' : ∀ k y, vs[k]? = some y → apE oneV ((gs.map Er.E).take k) = some y.V
  last : apE oneV (gs.map Er.E) = some x.V
  eg : ∀ y ∈ gs, Eg y.E
theorem apE_snocV {l : List Ed} {V0 V U : Vw} {E : Ed} (h : apE V0 l = some V) (h2 : appl V E = some U) : apE V0 (l ++ [E]) = some U := by
  rw [apE_app, h]
  show apE V [E] = some U
  rw [apE_cons, h2]
  rfl
theorem Cq.snoc {gs : List Er} {vs : List Vr} {x x' : Vr} {y : Er} (h : Cq gs vs x) (ha : appl x.V y.E = some x'.V) (he : Eg y.E) : Cq (gs ++ [y]) (vs ++ [x']) x' := by
  refine ⟨by rw [List.length_append, List.length_append, h.len]; rfl, fun k u hk => ?_, by rw [List.map_append]; exact apE_snocV h.last ha, fun F hF => ?_⟩
  · rw [List.map_append]
    have hl := h.len
    rcases Nat.lt_or_ge k vs.length with hlt | hge
    · rw [List.getElem?_append_left hlt] at hk
      rw [List.take_append_of_le_length (by rw [List.length_map]; omega)]
      exact h.at' k u hk
    · rw [List.getElem?_append_right hge] at hk
      have hk0 : k - vs.length = 0 := by
        rcases Nat.eq_zero_or_pos (k - vs.length) with e | e
        · exact e
        · rw [List.getElem?_eq_none (by simp; omega)] at hk; cases hk
      rw [hk0] at hk
      simp at hk
      rw [← hk, List.take_of_length_le (by rw [List.length_append, List.length_map]; simp; omega)]
      exact apE_snocV h.last ha
  · rcases List.mem_append.1 hF with e | e
    · exact h.eg F e
    · rw [List.mem_singleton.1 e]; exact he
theorem vok_one : vok oneV = true := by decide
theorem apE_vok : ∀ (l : List Ed) (V U : Vw), apE V l = some U → vok V = true → vok U = true
  | [], V, U, h, hv => by rw [← Option.some.inj h]; exact hv
  | E :: l, V, U, h, hv => by
    rw [apE_cons] at h
    split at h
    · cases h
    · rename_i W hW
      unfold appl at hW
      split at hW
      · cases hW
      · split at hW
        · rename_i hok
          injection hW with hW
          exact apE_vok l W U h (by rw [← hW]; exact hok)
        · cases hW
/-- What edits tells. -/
def EdA (ls : List Er) (w : World) (e : Ending) (w' : World) : Prop := Below w.heap.size w w' ∧ (e = .returned (.tuple #[.slice none 0 0, .slice none 0 0, .bool false]) ∨ ∃ v6 v7 x vs gs, e = .returned (.tuple #[v7, v6, .bool true]) ∧
  Cg w w' v6 v7 x vs 34 7 gs.length (ecs gs) ∧ Cq gs vs x ∧ (∀ y ∈ gs, y ∈ ls) ∧ gs.length ≤ 45)

end Go.Proofs.YtcahlmneancapaaGreatDoor.Clep
