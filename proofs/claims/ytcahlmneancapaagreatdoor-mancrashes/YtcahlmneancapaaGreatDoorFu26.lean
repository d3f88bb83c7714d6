/- A manifest's state: the Edits of its file, the View that they make, what lasts; what Save, a renewal, a loss of power and a reading make of it, as functions of the Disk. Up to 60 files, 250,000 bytes. -/
import Derived.Test.YtcahlmneancapaaGreatDoorFu25
import Derived.Test.YtcahlmneancapaaGreatDoorFu14
import Derived.Test.YtcahlmneancapaaGreatDoorFu22
import Derived.Test.YtcahlmneancapaaGreatDoorFu02
namespace Go.Proofs.YtcahlmneancapaaGreatDoor.Clep
open Go.RowKit Go.Maps Go.Sort
set_option linter.unusedVariables false
set_option maxRecDepth 10000

def Vnn (V : Vw) : Prop := 0 ≤ V.fl ∧ 0 ≤ V.ct ∧ 0 ≤ V.at9 ∧ 0 ≤ V.ls
theorem put0_nn {x y : Int} (h1 : 0 ≤ x) (h2 : 0 ≤ y) : 0 ≤ put0 x y := by unfold put0; split <;> omega
theorem appl_nn {V U : Vw} {E : Ed} (h : appl V E = some U) (hV : Vnn V) (hE : 0 ≤ E.fl ∧ 0 ≤ E.ct ∧ 0 ≤ E.at9 ∧ 0 ≤ E.ls) : Vnn U := by
  unfold appl at h
  split at h
  · cases h
  · split at h
    · injection h with h
      subst h
      exact ⟨put0_nn hV.1 hE.1, put0_nn hV.2.1 hE.2.1, put0_nn hV.2.2.1 hE.2.2.1, put0_nn hV.2.2.2 hE.2.2.2⟩
    · cases h
theorem apE_nn : ∀ (l : List Ed) (V U : Vw), apE V l = some U → Vnn V → (∀ E ∈ l, Eg E) → Vnn U
  | [], V, U, h, hV, _ => by injection h with h; rw [← h]; exact hV
  | E :: l, V, U, h, hV, hE => by
    rw [apE_cons] at h
    cases hr : appl V E with
    | none => rw [hr] at h; cases h
    | some X => rw [hr] at h; exact apE_nn l X U h (appl_nn hr hV (hE E List.mem_cons_self).2) (fun E he => hE E (List.mem_cons_of_mem _ he))
theorem apE_ok : ∀ (l : List Ed) (V U : Vw), apE V l = some U → vok V = true ∨ 0 < l.length → vok U = true
  | [], V, U, h, hV => by
    injection h with h
    rw [← h]
    rcases hV with h | h
    · exact h
    · simp at h
  | E :: l, V, U, h, _ => by
    rw [apE_cons] at h
    cases hr : appl V E with
    | none => rw [hr] at h; cases h
    | some X => rw [hr] at h; exact apE_ok l X U h (.inl (appl_vok hr))
/-- The manifest man.n: its file has the Edits l, of which L bytes last; they make V; T: the greatest number of a file. -/
structure Mp (S : St) (T n : Nat) (l : List Ed) (L : Nat) (V : Vw) : Prop where
  dk : Dk S T
  low : 1 ≤ T
  top : lk S.names (mnm T) ≠ 0
  solo : Solo leB S n (el l) L
  eg : ∀ E ∈ l, Eg E
  ap : apE zV l = some V
  pos : 0 < l.length
theorem Mp.vok {S : St} {T n : Nat} {l : List Ed} {L : Nat} {V : Vw} (h : Mp S T n l L V) : vok V = true := apE_ok l zV V h.ap (.inr h.pos)
theorem zV_nn : Vnn zV := ⟨Int.le_refl 0, Int.le_refl 0, Int.le_refl 0, Int.le_refl 0⟩
theorem Mp.nn {S : St} {T n : Nat} {l : List Ed} {L : Nat} {V : Vw} (h : Mp S T n l L V) : Vnn V := apE_nn l zV V h.ap zV_nn h.eg
theorem solo_low {le : Nat → List Int} {S : St} {T n : Nat} {X : List Int} {L : Nat} (D : Dk S T) (so : Solo le S n X L) : 1 ≤ n ∧ n ≤ T := by
  obtain ⟨x, hx⟩ := so.all
  exact ⟨so.low.1, at_low D D.nm (hx _ D.nm).2 so.low⟩
theorem Mp.n100 {S : St} {T n : Nat} {l : List Ed} {L : Nat} {V : Vw} (h : Mp S T n l L V) : 1 ≤ n ∧ n < 100 := h.solo.low
theorem mp_new {q : Nat} {V : Vw} {S' : St} (h : NewOk leB q (whB V) S') (hv : vok V = true) (hu : Vnn V) : Mp S' 1 1 [wholeE V] (el [wholeE V]).length V :=
  ⟨h.dk, by omega, h.top, by have h2 := h.solo; unfold whB at h2; rw [el_one]; exact h2, fun E hE => by rw [List.mem_singleton.1 hE]; exact whole_may hv hu, by rw [apE_cons, appl_whole hv]; rfl, by simp⟩
theorem mp_save {S S' : St} {T n ph E1 : Nat} {l : List Ed} {L : Nat} {V U : Vw} {E : Ed} (h : Mp S T n l L V) (hE : Eg E) (ha : appl V E = some U) (hq : tot S + 1312 ≤ 250000) (hq2 : tot S + 1312 ≤ S.q) (e : saveS S (mnm n) (fr 6 (ebd E)) = (E1, ph, S')) :
    Md S E1 S' ∧ S'.calls ≤ S.calls + 2 ∧ tot S' ≤ tot S + 1312 ∧ S'.q = S.q ∧ lk S'.names = lk S.names ∧
    ((ph = 0 ∧ E1 ≠ 0 ∧ Mp S' T n l L V) ∨ (ph = 1 ∧ E1 ≠ 0 ∧ Mp S' T n (l ++ [E]) L U) ∨ (ph = 2 ∧ E1 = 0 ∧ Mp S' T n (l ++ [E]) (el (l ++ [E])).length U)) := by
  have hlen : (fr 6 (ebd E)).length ≤ 1312 := by
    have h2 := el_len [E] (fun D hD => by rw [List.mem_singleton.1 hD]; exact hE)
    rw [el_one] at h2
    exact h2
  have hel : el l ++ fr 6 (ebd E) = el (l ++ [E]) := by rw [el_app, el_one]
  obtain ⟨m, c, d, nm, t, q, r⟩ := save_ok h.dk h.solo (by omega) (by omega) e
  rw [hel] at r
  have hg : ∀ D ∈ l ++ [E], Eg D := fun D hD => by
    rcases List.mem_append.1 hD with h1 | h1
    · exact h.eg D h1
    · rw [List.mem_singleton.1 h1]; exact hE
  have hap : apE zV (l ++ [E]) = some U := apE_snoc h.ap ha
  refine ⟨m, c, by omega, q, nm, ?_⟩
  rcases r with ⟨r1, r2, r3⟩ | ⟨r1, r2, r3⟩ | ⟨r1, r2, r3⟩
  · exact .inl ⟨r1, r2, d, h.low, by rw [nm]; exact h.top, r3, h.eg, h.ap, h.pos⟩
  · exact .inr (.inl ⟨r1, r2, d, h.low, by rw [nm]; exact h.top, r3, hg, hap, by simp⟩)
  · exact .inr (.inr ⟨r1, r2, d, h.low, by rw [nm]; exact h.top, r3, hg, hap, by simp⟩)
/-- What current and the file read. -/
theorem readS_at {S : St} {T : Nat} (D : Dk S T) {s : ByteArray} {f : Fl} (hd : S.dead = false) (hok : okName s = true) (hf : fileAt S.files (lk S.names s) = some f) : readS S s = (0, f.bs) := by
  unfold readS
  rw [if_neg (by rw [hok]; simp), if_neg (by rw [hd]; simp), hf]
theorem solo_reads {le : Nat → List Int} {S : St} {T n : Nat} {X : List Int} {L : Nat} (D : Dk S T) (hd : S.dead = false) (so : Solo le S n X L) : readS S nCur = (0, le n) ∧ readS S (mnm n) = (0, X) := by
  obtain ⟨x, hx⟩ := so.all
  obtain ⟨-, g, f, h1, h2, h3, h4, h5, h6⟩ := hx _ D.nm
  exact ⟨by rw [readS_at D hd okCur h1, h2], by rw [readS_at D hd (mnm_okAll n so.low.2).1 h4, h5]⟩
theorem tk_bo (n : Nat) (hn : n < 100) : ce (leB n) = 0 ∧ kd (leB n) = 8 ∧ ln (leB n) = ((pu (n : Int)).length : Int) ∧ bo (leB n) = pu (n : Int) := by
  have hl := pu_len10 n
  have hr := pu_range n (by omega) (by omega)
  have h1 := fr_ce 8 (pu (n : Int)) [] (by decide) (by decide) (by omega) hr
  have h2 := fr_kd 8 (pu (n : Int)) []
  have h3 := fr_ln 8 (pu (n : Int)) [] (by omega)
  have h4 := fr_bo 8 (pu (n : Int)) [] (by omega)
  rw [List.append_nil] at h1 h2 h3 h4
  exact ⟨h1, h2, h3, h4⟩
theorem ldP_leB {n : Nat} (h1 : 1 ≤ n) (h2 : n < 100) : ldP (leB n) = some n := by
  obtain ⟨a, b, c, d⟩ := tk_bo n h2
  have ht := tk_pu (n : Int) [] (by omega) (by omega)
  rw [List.append_nil] at ht
  have hlen : (leB n).length = (pu (n : Int)).length + 12 := by unfold leB; exact fr_len _ _
  unfold ldP
  rw [a, b, c, d, ht, hlen]
  rw [if_pos ⟨rfl, rfl, by omega, rfl, rfl, by simp only; omega, by simp only; omega⟩]
  simp
theorem rpE_el {l : List Ed} {V : Vw} (hg : ∀ E ∈ l, Eg E) (ha : apE zV l = some V) (hp : 0 < l.length) : rpE (el l) = some (V, (el l).length) ∧ (SP ((el l).take (el l).length)).1.length = l.length := by
  refine ⟨by rw [rpE_all hg ha, if_neg (by omega)], ?_⟩
  rw [List.take_length]
  have := SP_el l hg []
  rw [List.append_nil, SP_nil] at this
  rw [this]
  simp
/-- A renewal of the View. -/
theorem mp_renew {S S' : St} {T n ph E1 : Nat} {l : List Ed} {L : Nat} {V : Vw} (h : Mp S T n l L V) (hd : S.dead = false) (h6 : T + 1 ≤ 60) (hq : tot S + 1334 ≤ 250000) (hq2 : tot S + 1334 ≤ S.q) (e : renewS S (nextS S) (whB V) (leB (nextS S)) = (E1, ph, S')) :
    nextS S = T + 1 ∧ Md S E1 S' ∧ S'.calls ≤ S.calls + 100 ∧ tot S' ≤ tot S + 1334 ∧ S'.q = S.q ∧
    ((ph = 0 ∧ E1 ≠ 0 ∧ ∃ T1, T1 ≤ T + 1 ∧ Mp S' T1 n l L V) ∨
     (ph = 1 ∧ E1 ≠ 0 ∧ Dk S' (T + 1) ∧ Am leB S'.files (lk S'.names) (T + 1) (whB V) (whB V).length ∧ ∀ N, Outs S' N → Am leB S'.files N n (el l) L ∨ Am leB S'.files N (T + 1) (whB V) (whB V).length) ∨
     (ph = 2 ∧ E1 = 0 ∧ Mp S' (T + 1) (T + 1) [wholeE V] (el [wholeE V]).length V ∧ (S.stop = 0 → S.fail = 0 → ∀ t, lk S'.names t ≠ 0 → t = nCur ∨ t = mnm (T + 1)))) := by
  have hn := next_eq h.dk hd h.top
  rw [hn] at e
  have hw := (whB_facts (whole_may h.vok h.nn)).2
  have hz := leB_len (T + 1)
  obtain ⟨m, c, t, q, ⟨T1, hT1, D1, l1⟩, r⟩ := renew_ok h.dk h6 hd h.solo h.top h.low (by omega) (by omega) e
  refine ⟨hn, m, c, by omega, q, ?_⟩
  rcases r with ⟨r1, r2, r3⟩ | ⟨r1, r2, r3, r4⟩ | ⟨r1, r2, r3, r4⟩
  · exact .inl ⟨r1, r2, T1, by omega, D1, by have := h.low; omega, l1, r3, h.eg, h.ap, h.pos⟩
  · refine .inr (.inl ⟨r1, r2, ?_, r3, r4⟩)
    rcases hT1 with h1 | h1
    · exfalso
      have := at_low D1 D1.nm r3 ⟨by omega, by omega⟩
      omega
    · rw [h1] at D1; exact D1
  · have hT2 : T1 = T + 1 := by
      rcases hT1 with h1 | h1
      · exfalso
        have := (solo_low D1 r3).2
        omega
      · exact h1
    subst hT2
    exact .inr (.inr ⟨r1, r2, ⟨D1, by omega, l1, by have h2 := r3; unfold whB at h2; rw [el_one]; exact h2, fun E hE => by rw [List.mem_singleton.1 hE]; exact whole_may h.vok h.nn, by rw [apE_cons, appl_whole h.vok]; rfl, by simp⟩, r4⟩)
/-- The steps of a renewal keep the Disk one of a manifest. -/
theorem mp_steps {S : St} {T n : Nat} {X : List Int} {L : Nat} {V : Vw} (D : Dk S T) (so : Solo leB S n X L) (hT : lk S.names (mnm T) ≠ 0) (hw : (whB V).length ≤ 1312) (hd : S.dead = false) (h6 : T + 1 ≤ 60) (hq : tot S + 1334 ≤ 250000) (hq2 : tot S + 1334 ≤ S.q) :
    (1 ≤ nextS S ∧ nextS S < 100) ∧ (∀ E1 S1, layS S (mnm (nextS S)) (whB V) = (E1, S1) → ∃ T1, Dk S1 T1) ∧ (∀ S4, preS S (nextS S) (whB V) (leB (nextS S)) = (0, 2, S4) → ∃ T4, Dk S4 T4) := by
  have hn := next_eq D hd hT
  rw [hn]
  have hz := leB_len (T + 1)
  refine ⟨⟨by omega, by omega⟩, fun E1 S1 e1 => ?_, fun S4 e4 => ?_⟩
  · have hfree : lk S.names (mnm (T + 1)) = 0 := Classical.byContradiction fun h => by
      rcases D.now.sup _ h with h | h | ⟨k, h2, h3, h⟩
      · exact mnm_cur (by omega) (by omega) h
      · exact mnm_frs (by omega) (by omega) h
      · have := mnm_inj (by omega) (by omega) h; omega
    obtain ⟨m1, c1, k1, d1, t1, s1⟩ := lay_ok D (Nat.le_succ _) h6 (.inr (.inr ⟨T + 1, by omega, Nat.le_refl _, rfl⟩)) (mnm_okAll _ (by omega)).1 (fun _ => hfree) (by omega) (by omega) e1
    rcases d1 with h | h
    · exact ⟨_, h.2.1⟩
    · exact ⟨_, h.1⟩
  · obtain ⟨m, c, t, q, ⟨T1, hT1, D1, l1⟩, r⟩ := pre_ok D h6 hd so (by omega) (by omega) e4
    exact ⟨T1, D1⟩

end Go.Proofs.YtcahlmneancapaaGreatDoor.Clep

/- What View of a Manifest does when called (a walk over the translated program). Conditions: a View of at most 100,000 files. -/
namespace Go.Proofs.YtcahlmneancapaaGreatDoor.Clep
open Go.RowKit Go.Maps
set_option linter.unusedVariables false
set_option maxRecDepth 10000

set_option maxHeartbeats 1000000 in
theorem mview_any {F : Nat → Prop} {w : World} {M R n c : Nat} {V : Vw} {br : Bool} {S : St} (h : Ma F w M R n c V br S) (hn : V.f.length ≤ 100000) :
    Calls Tryz.prog 15 #[.pointer (some ⟨M, 0, none⟩)] w (OwA V w) := by
  obtain ⟨fa, fc, hb, hfs, hcap, hx⟩ := h.blk
  have hMw := h.lt
  have HR := hide (show ∀ (a : Option Addr) (c : Nat) (W : World), c ≤ 9223372036854775807 → OwnF W w.heap.size (.slice a V.f.length c) V.f → Fs W a V.f.length c V.f → (∀ x, a = some x → w.heap.size ≤ x.block) → Below w.heap.size w W → OwA V w (.returned (vwV a V.f.length c V)) W from fun a c W h1 h2 h3 h4 h5 => ⟨a, c, rfl, h1, h2, h3, h4, h5⟩)
  generalize OwA V w = Q at *
  have hA1 := (Below.refl _ w).alloc (Nat.le_refl _) (Obj.cells #[.int .i64 0, .slice none 0 0, .int .u64 0, .int .u64 0, .int .u64 0, .int .u64 0] 31)
  have k2 := ek_new w #[.int .i64 0, .slice none 0 0, .int .u64 0, .int .u64 0, .int .u64 0, .int .u64 0] 31
  have hs1 : (w.alloc (Obj.cells #[.int .i64 0, .slice none 0 0, .int .u64 0, .int .u64 0, .int .u64 0, .int .u64 0] 31)).heap.size = w.heap.size + 1 := by simp
  have C := hide (mown_any fa V.f.length fc V _ (hfs.below hA1 (Nat.le_refl _)) hn)
  have K2 := hide k2
  have HA1 := hide hA1
  have HS1 := hide hs1
  have c3 : w.cell? ⟨M, 3, none⟩ = some (.int .i64 V.lg) := hb.cell rfl
  have c4 : w.cell? ⟨M, 4, none⟩ = some (.slice fa V.f.length fc) := hb.cell rfl
  have c5 : w.cell? ⟨M, 5, none⟩ = some (.int .u64 V.fl) := hb.cell rfl
  have c6 : w.cell? ⟨M, 6, none⟩ = some (.int .u64 V.ct) := hb.cell rfl
  have c7 : w.cell? ⟨M, 7, none⟩ = some (.int .u64 V.at9) := hb.cell rfl
  have c8 : w.cell? ⟨M, 8, none⟩ = some (.int .u64 V.ls) := hb.cell rfl
  unfold vwV at C HR
  clear h hb hfs hx k2 hA1 hs1
  go_enter Tryz.func15, Tryz.ntmps15
  go_wp2_with fail
  refine C.out.mono ?_
  rintro e w1 ⟨a, c', rfl, hc, ho, hf, hx, hb⟩
  unfold vwV
  have hsz2 := HS1.out
  have hsz1 := hb.size
  have j2 := Ek.keep K2.out hb
  have q3 := (((((j2.set 0 (.int .i64 V.lg)).set 1 (.slice a V.f.length c')).set 2 (.int .u64 V.fl)).set 3 (.int .u64 V.ct)).set 4 (.int .u64 V.at9)).set 5 (.int .u64 V.ls)
  have hg := gset6a w1 w.heap.size (.int .i64 V.lg) (.slice a V.f.length c') (.int .u64 V.fl) (.int .u64 V.ct) (.int .u64 V.at9) (.int .u64 V.ls)
  have ho2 : OwnF w1 w.heap.size (.slice a V.f.length c') V.f := row_base ho (by omega)
  have E1 := hide (And.intro q3 (HR.out a c' _ hc (ownF_far (p := w.heap.size) ho2 hg (fun e => by have := (World.ownsRow.lt ho _ e).1; omega)) (hf.gb hg (fun x e => by have := hx x e; intro e2; injection e2 with e2; omega)) (fun x e => by have := hx x e; omega) ((HA1.out.trans (hb.mono (by omega))).grown hg (by omega) (fun k e => by injection e with e; omega))))
  have z0 : w1.cell? ⟨w.heap.size, 0, none⟩ = some (.int .i64 0) := j2.cell rfl
  have z1 : w1.cell? ⟨w.heap.size, 1, none⟩ = some (.slice none 0 0) := j2.cell rfl
  have z2 : w1.cell? ⟨w.heap.size, 2, none⟩ = some (.int .u64 0) := j2.cell rfl
  have z3 : w1.cell? ⟨w.heap.size, 3, none⟩ = some (.int .u64 0) := j2.cell rfl
  have z4 : w1.cell? ⟨w.heap.size, 4, none⟩ = some (.int .u64 0) := j2.cell rfl
  have z5 : w1.cell? ⟨w.heap.size, 5, none⟩ = some (.int .u64 0) := j2.cell rfl
  have y0 := j2.free 0
  have y1 := j2.free 1
  have y2 := j2.free 2
  have y3 := j2.free 3
  have y4 := j2.free 4
  have y5 := j2.free 5
  clear C HA1 K2 HS1 ho2 ho hb hf hx j2 q3 hg HR hsz1 hsz2 c3 c4 c5 c6 c7 c8
  go_wp2
  refine bodyPost_ret (mview_results E1.out.1 _ rfl) rfl ?_
  exact E1.out.2
end Go.Proofs.YtcahlmneancapaaGreatDoor.Clep

/- A Disk, and a Manifest over it, beside what a statement began with: what each call leaves of them. Conditions: those of the calls. -/
namespace Go.Proofs.YtcahlmneancapaaGreatDoor.Clep
open Go.RowKit Go.Maps Go.Sort
set_option linter.unusedVariables false
set_option maxRecDepth 10000

theorem field_F (w : World) (A B C D E : Int) (a : Option Addr) (n c : Nat) : (Instr.field 31 (.agg #[.int .i64 A, .slice a n c, .int .u64 B, .int .u64 C, .int .u64 D, .int .u64 E]) 2).run Tryz.prog w = .ok (.int .u64 B) w := by kernel_rfl
theorem field_L (w : World) (A B C D E : Int) (a : Option Addr) (n c : Nat) : (Instr.field 31 (.agg #[.int .i64 A, .slice a n c, .int .u64 B, .int .u64 C, .int .u64 D, .int .u64 E]) 0).run Tryz.prog w = .ok (.int .i64 A) w := by kernel_rfl
/-- The Disk at R, beside all that was there ahead. -/
def Bd (w0 w : World) (R : Nat) (S : St) : Prop := (∃ F : Nat → Prop, Held F w R S ∧ ∀ i, i < w0.heap.size → F i) ∧ Below w0.heap.size w0 w
/-- And a Manifest over it. -/
structure Bm (w0 w : World) (M R n c : Nat) (V : Vw) (br : Bool) (S : St) : Prop where
  ma : ∃ F : Nat → Prop, Ma F w M R n c V br S ∧ ∀ i, i < w0.heap.size → F i
  bel : Below w0.heap.size w0 w
  low : w0.heap.size ≤ M
theorem Bm.bd {w0 w : World} {M R n c : Nat} {V : Vw} {br : Bool} {S : St} (h : Bm w0 w M R n c V br S) : Bd w0 w R S := by
  obtain ⟨F, m, hF⟩ := h.ma
  exact ⟨⟨F, m.held, hF⟩, h.bel⟩
theorem Bd.below {w0 w w' : World} {R : Nat} {S : St} (h : Bd w0 w R S) (hb : Below w.heap.size w w') : Bd w0 w' R S := by
  obtain ⟨⟨F, m, hF⟩, hw⟩ := h
  exact ⟨⟨F, (m.same hb).1, hF⟩, bmore hw hb⟩
theorem Bm.below {w0 w w' : World} {M R n c : Nat} {V : Vw} {br : Bool} {S : St} (h : Bm w0 w M R n c V br S) (hb : Below w.heap.size w w') : Bm w0 w' M R n c V br S := by
  obtain ⟨F, m, hF⟩ := h.ma
  exact ⟨⟨F, m.below hb, hF⟩, bmore h.bel hb, h.low⟩
theorem Bd.disk {w0 w w' : World} {R : Nat} {S S' : St} {F : Nat → Prop} (hF : ∀ i, i < w0.heap.size → F i) (h : Below w0.heap.size w0 w) (hh : Held F w' R S') (hs : Same F w w') : Bd w0 w' R S' := ⟨⟨F, hh, hF⟩, h.trans (hs.below hF)⟩
theorem Bm.disk {w0 w w' : World} {M R n c : Nat} {V : Vw} {br : Bool} {S S' : St} {F : Nat → Prop} (m : Ma F w M R n c V br S) (hF : ∀ i, i < w0.heap.size → F i) (h : Below w0.heap.size w0 w) (hl : w0.heap.size ≤ M) (hh : Held F w' R S') (hs : Same F w w') : Bm w0 w' M R n c V br S' := ⟨⟨F, m.disk hh hs, hF⟩, h.trans (hs.below hF), hl⟩
theorem bd_new (q : Nat) (w : World) (hq : q ≤ 9223372036854775807) (n : Int) (hn : n = q) :
    Calls Tryz.prog 9 #[.int .i64 n] w fun e w' => ∃ R, e = .returned (.pointer (some ⟨R, 0, none⟩)) ∧ Bd w w' R (newS q) := by
  refine (new_h q w hq n hn).mono ?_
  rintro e w' ⟨R, rfl, h, hb⟩
  exact ⟨R, rfl, ⟨_, h, fun i hi => hi⟩, hb⟩
theorem bm_new {w0 w : World} {R q : Nat} {S' : St} (fa : Option Addr) (fn fc : Nat) (V : Vw) (hd : Bd w0 w R (newS q)) (h : Fs w fa fn fc V.f) (hc : fc ≤ 9223372036854775807) (hv : vok V = true) (hu : Vnn V) (hN : NewOk leB q (whB V) S') :
    Calls Tryz.prog 10 #[.pointer (some ⟨R, 0, none⟩), vwV fa fn fc V] w fun e w' => ∃ M, e = .returned (.tuple #[.pointer (some ⟨M, 0, none⟩), .int .i64 0]) ∧ Bm w0 w' M R 1 1 V false S' := by
  obtain ⟨⟨F, m, hF⟩, hw⟩ := hd
  refine (mnew_any fa fn fc V w m h hc hv hu hN).mono ?_
  rintro e w' ⟨M, F', h1, rfl, h2, h3, h4⟩
  exact ⟨M, rfl, ⟨F', h3, fun i hi => h1 i (hF i hi)⟩, hw.trans (h4.below hF), Nat.le_trans hw.size h2⟩
theorem bm_save {w0 w : World} {M R n c : Nat} {V : Vw} {S : St} (h : Bm w0 w M R n c V false S) (da aa : Option Addr) (dn dc an ac : Nat) (E : Ed) (hzd : Zs w da dn dc E.d) (hfa : Fs w aa an ac E.a) (hdn : dn ≤ 60) (han : an ≤ 60) (hu : 0 ≤ E.fl ∧ 0 ≤ E.ct ∧ 0 ≤ E.at9 ∧ 0 ≤ E.ls)
    (hV : vok V = true) (h1 : 1 ≤ n) (h2 : n < 100) (hc : c ≤ 1000000) (hm : S.calls < 274877906944) :
    Calls Tryz.prog 11 #[.pointer (some ⟨M, 0, none⟩), edV da dn dc aa an ac E] w fun e w' => (emay E ≠ 0 ∨ appl V E = none → e = .returned (.int .i64 1) ∧ Bm w0 w' M R n c V false S) ∧
      (∀ U, emay E = 0 → appl V E = some U → ∃ E1 ph S', saveS S (mnm n) (fr 6 (ebd E)) = (E1, ph, S') ∧ e = .returned (.int .i64 (E1 : Nat)) ∧ Bm w0 w' M R n (if ph = 0 then c else c + 1) (if ph = 0 then V else U) (decide (ph = 1)) S') := by
  obtain ⟨F, m, hF⟩ := h.ma
  refine (msave_any m da aa dn dc an ac E hzd hfa hdn han hu (good_once (.inr hV)) h1 h2 hc hm).mono ?_
  rintro e w' ⟨q1, q2⟩
  refine ⟨fun hb => ?_, fun U a b => ?_⟩
  · obtain ⟨e1, hb⟩ := q1 hb
    exact ⟨e1, h.below hb⟩
  · obtain ⟨E1, ph, S', r1, r2, r3, F', r4, r5⟩ := q2 U a b
    have hl := h.low
    exact ⟨E1, ph, S', r1, r2, ⟨F', r5, fun i hi => r4 i (hF i hi)⟩, h.bel.trans (r3.below (fun i hi => ⟨hF i hi, by omega⟩)), h.low⟩
theorem bm_save_broken {w0 w : World} {M R n c : Nat} {V : Vw} {S : St} (h : Bm w0 w M R n c V true S) (da aa : Option Addr) (dn dc an ac : Nat) (E : Ed) :
    Calls Tryz.prog 11 #[.pointer (some ⟨M, 0, none⟩), edV da dn dc aa an ac E] w fun e w' => e = .returned (.int .i64 14) ∧ Bm w0 w' M R n c V true S := by
  obtain ⟨F, m, hF⟩ := h.ma
  refine (msave_broken m da aa dn dc an ac E).mono ?_
  rintro e w' ⟨rfl, hb⟩
  exact ⟨rfl, h.below hb⟩
theorem bm_rewrite {w0 w : World} {M R n c T : Nat} {V : Vw} {S : St} {X : List Int} {L : Nat} (h : Bm w0 w M R n c V false S) (D : Dk S T) (so : Solo leB S n X L) (hT : lk S.names (mnm T) ≠ 0) (hV : vok V = true) (hu : Vnn V) (hd : S.dead = false) (h6 : T + 1 ≤ 60) (hq : tot S + 1334 ≤ 250000) (hq2 : tot S + 1334 ≤ S.q) (hm : S.calls < 68719476736) :
    Calls Tryz.prog 28 #[.pointer (some ⟨M, 0, none⟩)] w fun e w' => ∃ E ph S', renewS S (nextS S) (whB V) (leB (nextS S)) = (E, ph, S') ∧ e = .returned (.int .i64 (E : Nat)) ∧ Bm w0 w' M R (if ph = 0 then n else nextS S) (if ph = 0 then c else 1) V (decide (ph = 1)) S' := by
  obtain ⟨F, m, hF⟩ := h.ma
  obtain ⟨s1, s2, s3⟩ := mp_steps (V := V) D so hT (whB_facts (whole_may hV hu)).2 hd h6 hq hq2
  refine (mrewrite_any m D hV hu hm s1 s2 s3).mono ?_
  rintro e w' ⟨E, ph, S', q1, rfl, q3, q4⟩
  have hl := h.low
  exact ⟨E, ph, S', q1, rfl, ⟨F, q3, hF⟩, h.bel.trans (q4.below (fun i hi => ⟨hF i hi, by omega⟩)), h.low⟩
theorem bm_rewrite_dead {w0 w : World} {M R n c T : Nat} {V : Vw} {S : St} (h : Bm w0 w M R n c V false S) (D : Dk S T) (hV : vok V = true) (hu : Vnn V) (hd : S.dead = true) (hm : S.calls < 68719476736) :
    Calls Tryz.prog 28 #[.pointer (some ⟨M, 0, none⟩)] w fun e w' => e = .returned (.int .i64 50) ∧ Bm w0 w' M R n c V false { S with calls := S.calls + 1 } := by
  obtain ⟨F, m, hF⟩ := h.ma
  have hn : nextS S = 1 := next_dead hd
  have hr := renew_dead (W := whB V) (Z := leB 1) hd (show 1 < 100 by decide)
  refine (mrewrite_any m D hV hu hm (by rw [hn]; decide) (fun E1 S1 e1 => ?_) (fun S4 e4 => ?_)).mono ?_
  · rw [hn] at e1
    have hb : beginS S = (50, { S with calls := S.calls + 1 }) := by unfold beginS; rw [if_pos hd]
    have h1 : createS S (mnm 1) = (50, { S with calls := S.calls + 1 }) := by
      unfold createS
      rw [if_neg (by decide), hb, if_pos (show (50 : Nat) ≠ 0 by decide)]
    unfold layS at e1
    rw [h1] at e1
    injection e1 with _ e1
    subst e1
    exact ⟨T, (Eqf.mk rfl rfl rfl rfl rfl rfl : Eqf S { S with calls := S.calls + 1 }).dk D⟩
  · exfalso
    rw [hn] at e4
    have : renewS S 1 (whB V) (leB 1) = (0, 2, sweepL 1 (if S4.dead then [] else namesL S4) S4) := by unfold renewS; rw [e4]; rfl
    rw [hr] at this
    injection this with h1 _
    cases h1
  rintro e w' ⟨E, ph, S', q1, rfl, q3, q4⟩
  rw [hn, hr] at q1
  injection q1 with r1 r2
  injection r2 with r2 r3
  subst r1 r2 r3
  have hl := h.low
  exact ⟨rfl, ⟨F, q3, hF⟩, h.bel.trans (q4.below (fun i hi => ⟨hF i hi, by omega⟩)), h.low⟩
theorem bm_rewrite_broken {w0 w : World} {M R n c : Nat} {V : Vw} {S : St} (h : Bm w0 w M R n c V true S) :
    Calls Tryz.prog 28 #[.pointer (some ⟨M, 0, none⟩)] w fun e w' => e = .returned (.int .i64 14) ∧ w' = w := by
  obtain ⟨F, m, hF⟩ := h.ma
  exact mrewrite_broken m
theorem bm_view {w0 w : World} {M R n c : Nat} {V : Vw} {br : Bool} {S : St} (h : Bm w0 w M R n c V br S) (hn : V.f.length ≤ 100000) :
    Calls Tryz.prog 15 #[.pointer (some ⟨M, 0, none⟩)] w fun e w' => ∃ a c', e = .returned (vwV a V.f.length c' V) ∧ c' ≤ 9223372036854775807 ∧ Fs w' a V.f.length c' V.f ∧ Bm w0 w' M R n c V br S ∧ Below w.heap.size w w' := by
  obtain ⟨F, m, hF⟩ := h.ma
  refine (mview_any m hn).mono ?_
  rintro e w' ⟨a, c', rfl, h1, -, h2, -, hb⟩
  exact ⟨a, c', rfl, h1, h2, h.below hb, hb⟩
theorem bm_name {w0 w : World} {M R n c : Nat} {V : Vw} {br : Bool} {S : St} (h : Bm w0 w M R n c V br S) (h1 : 1 ≤ n) (h2 : n < 100) : Calls Tryz.prog 19 #[.pointer (some ⟨M, 0, none⟩)] w fun e w' => e = .returned (.string (mnm n)) ∧ w' = w := by
  obtain ⟨F, m, hF⟩ := h.ma
  exact mname_any m h1 h2
theorem bm_count {w0 w : World} {M R n c : Nat} {V : Vw} {br : Bool} {S : St} (h : Bm w0 w M R n c V br S) : Calls Tryz.prog 13 #[.pointer (some ⟨M, 0, none⟩)] w fun e w' => e = .returned (.int .i64 c) ∧ w' = w := by
  obtain ⟨F, m, hF⟩ := h.ma
  exact mcount_any m
theorem bm_broken {w0 w : World} {M R n c : Nat} {V : Vw} {br : Bool} {S : St} (h : Bm w0 w M R n c V br S) : Calls Tryz.prog 30 #[.pointer (some ⟨M, 0, none⟩)] w fun e w' => e = .returned (.bool br) ∧ w' = w := by
  obtain ⟨F, m, hF⟩ := h.ma
  exact mbroken_any m
/-- Open, where current leads to a log that is whole and not long. -/
theorem bd_open_go {w0 w : World} {R n T k : Nat} {S : St} {X : List Int} {L : Nat} {V : Vw} (h : Bd w0 w R S) (D : Dk S T) (hT : lk S.names (mnm T) ≠ 0) (hd : S.dead = false) (so : Solo leB S n X L) (hr : rpE X = some (V, k)) (hu : Vnn V) (h6 : T + 1 ≤ 60) (hq : tot S + 1334 ≤ 250000) (hq2 : tot S + 1334 ≤ S.q) (hm : S.calls < 68719476736) :
    Calls Tryz.prog 12 #[.pointer (some ⟨R, 0, none⟩)] w fun e w' =>
      (k = X.length ∧ (SP (X.take k)).1.length ≤ 30 → ∃ M, e = .returned (.tuple #[.pointer (some ⟨M, 0, none⟩), .int .i64 0]) ∧ Bm w0 w' M R n (SP (X.take k)).1.length V false S ∧ Below w.heap.size w w') ∧
      (¬ (k = X.length ∧ (SP (X.take k)).1.length ≤ 30) → ∃ E ph S', renewS S (nextS S) (whB V) (leB (nextS S)) = (E, ph, S') ∧ Bd w0 w' R S' ∧ (E ≠ 0 → e = .returned (.tuple #[.pointer none, .int .i64 (E : Nat)])) ∧
        (E = 0 → ∃ M, e = .returned (.tuple #[.pointer (some ⟨M, 0, none⟩), .int .i64 0]) ∧ Bm w0 w' M R (if ph = 0 then n else nextS S) (if ph = 0 then (SP (X.take k)).1.length else 1) V (decide (ph = 1)) S')) := by
  obtain ⟨⟨F, m, hF⟩, hw⟩ := h
  obtain ⟨r1, r2⟩ := solo_reads D hd so
  obtain ⟨-, -, hvk⟩ := rpE_le hr
  obtain ⟨s1, s2, s3⟩ := mp_steps (V := V) D so hT (whB_facts (whole_may hvk hu)).2 hd h6 hq hq2
  refine (open_any m D r1 (ldP_leB so.low.1 so.low.2) so.low.1 so.low.2 r2 hr hu hm s1 s2 s3).mono ?_
  rintro e w' ⟨q1, q2⟩
  refine ⟨fun hc => ?_, fun hc => ?_⟩
  · obtain ⟨M, F', f1, rfl, f2, f3, f4⟩ := q1 ⟨decide_eq_true hc.1, hc.2⟩
    exact ⟨M, rfl, ⟨⟨F', f2, fun i hi => f1 i (hF i hi)⟩, bmore hw f3, Nat.le_trans hw.size f4⟩, f3⟩
  · obtain ⟨E, ph, S', f1, f2, f3, f4, f5⟩ := q2 (fun h => hc ⟨of_decide_eq_true h.1, h.2⟩)
    have hb : Below w0.heap.size w0 w' := hw.trans (f2.below hF)
    refine ⟨E, ph, S', f1, ⟨⟨F, f3, hF⟩, hb⟩, f4, fun hE => ?_⟩
    obtain ⟨M, F', g1, g2, g3, g4⟩ := f5 hE
    exact ⟨M, g2, ⟨F', g3, fun i hi => g1 i (hF i hi)⟩, hb, Nat.le_trans hw.size g4⟩

end Go.Proofs.YtcahlmneancapaaGreatDoor.Clep

/- A Disk, and a Manifest over it, beside blocks K that others hold: what each call leaves of them. Conditions: those of the calls. -/
namespace Go.Proofs.YtcahlmneancapaaGreatDoor.Clep
open Go.RowKit Go.Maps Go.Sort
set_option linter.unusedVariables false
set_option maxRecDepth 10000

/-- The Disk at R; the blocks of K are not its own. -/
def Kd (K : Nat → Prop) (w : World) (R : Nat) (S : St) : Prop := ∃ F : Nat → Prop, Held F w R S ∧ ∀ i, K i → F i
/-- And a Manifest over it. -/
structure Km (K : Nat → Prop) (w : World) (M R n c : Nat) (V : Vw) (br : Bool) (S : St) : Prop where
  ma : ∃ F : Nat → Prop, Ma F w M R n c V br S ∧ ∀ i, K i → F i
  low : ¬ K M
theorem Held.thin {F G : Nat → Prop} {w : World} {R : Nat} {S : St} (h : Held F w R S) (hG : ∀ i, G i → F i) : Held G w R S := by
  obtain ⟨g, D, hF⟩ := h
  exact ⟨g, D, fun i hi => hF i (hG i hi)⟩
theorem Km.kd {K : Nat → Prop} {w : World} {M R n c : Nat} {V : Vw} {br : Bool} {S : St} (h : Km K w M R n c V br S) : Kd K w R S := by
  obtain ⟨F, m, hF⟩ := h.ma
  exact ⟨F, m.held, hF⟩
theorem Km.lt {K : Nat → Prop} {w : World} {M R n c : Nat} {V : Vw} {br : Bool} {S : St} (h : Km K w M R n c V br S) {i : Nat} (hi : K i) : i < w.heap.size := by
  obtain ⟨F, m, hF⟩ := h.ma
  exact m.held.lt (hF i hi)
theorem Kd.lt {K : Nat → Prop} {w : World} {R : Nat} {S : St} (h : Kd K w R S) {i : Nat} (hi : K i) : i < w.heap.size := by
  obtain ⟨F, m, hF⟩ := h
  exact m.lt (hF i hi)
theorem Kd.below {K : Nat → Prop} {w w' : World} {R : Nat} {S : St} (h : Kd K w R S) (hb : Below w.heap.size w w') : Kd K w' R S := by
  obtain ⟨F, m, hF⟩ := h
  exact ⟨F, (m.same hb).1, hF⟩
theorem Km.below {K : Nat → Prop} {w w' : World} {M R n c : Nat} {V : Vw} {br : Bool} {S : St} (h : Km K w M R n c V br S) (hb : Below w.heap.size w w') : Km K w' M R n c V br S := by
  obtain ⟨F, m, hF⟩ := h.ma
  exact ⟨⟨F, m.below hb, hF⟩, h.low⟩
theorem Kd.same {K : Nat → Prop} {w w' : World} {R : Nat} {S : St} (h : Kd K w R S) (hb : Below w.heap.size w w') : Same K w w' := same_of hb (fun i hi => h.lt hi)
theorem Km.same {K : Nat → Prop} {w w' : World} {M R n c : Nat} {V : Vw} {br : Bool} {S : St} (h : Km K w M R n c V br S) (hb : Below w.heap.size w w') : Same K w w' := same_of hb (fun i hi => h.lt hi)
theorem Kd.thin {K G : Nat → Prop} {w : World} {R : Nat} {S : St} (h : Kd K w R S) (hG : ∀ i, G i → K i) : Kd G w R S := by
  obtain ⟨F, m, hF⟩ := h
  exact ⟨F, m, fun i hi => hF i (hG i hi)⟩
theorem Km.thin {K G : Nat → Prop} {w : World} {M R n c : Nat} {V : Vw} {br : Bool} {S : St} (h : Km K w M R n c V br S) (hG : ∀ i, G i → K i) : Km G w M R n c V br S := by
  obtain ⟨F, m, hF⟩ := h.ma
  exact ⟨⟨F, m, fun i hi => hF i (hG i hi)⟩, fun h2 => h.low (hG _ h2)⟩
/-- A new block is kept, too. -/
theorem Km.more {K : Nat → Prop} {w : World} {M R n c : Nat} {V : Vw} {br : Bool} {S : St} (h : Km K w M R n c V br S) (o : Obj) : Km (fun i => K i ∨ i = w.heap.size) (w.alloc o) M R n c V br S := by
  obtain ⟨F, m, hF⟩ := h.ma
  have hlt := m.lt
  exact ⟨⟨_, m.more o, fun i hi => hi.imp (hF i) id⟩, fun h2 => h2.elim h.low (fun h => by omega)⟩
/-- What a call left behind is kept, too. -/
theorem Km.wide {K : Nat → Prop} {w w' : World} {M R n c : Nat} {V : Vw} {br : Bool} {S : St} (h : Km K w M R n c V br S) (hb : Below w.heap.size w w') : Km (fun i => K i ∨ (w.heap.size ≤ i ∧ i < w'.heap.size)) w' M R n c V br S := by
  obtain ⟨F, m, hF⟩ := h.ma
  have hlt := m.lt
  exact ⟨⟨_, m.wide hb, fun i hi => hi.imp (hF i) id⟩, fun h2 => h2.elim h.low (fun h => by omega)⟩
theorem Kd.wide {K : Nat → Prop} {w w' : World} {R : Nat} {S : St} (h : Kd K w R S) (hb : Below w.heap.size w w') : Kd (fun i => K i ∨ (w.heap.size ≤ i ∧ i < w'.heap.size)) w' R S := by
  obtain ⟨F, m, hF⟩ := h
  exact ⟨_, m.wide hb, fun i hi => hi.imp (hF i) id⟩
/-- A kept block is written; the manifest has no files. -/
theorem Km.set0 {K : Nat → Prop} {w : World} {M R n c : Nat} {V : Vw} {br : Bool} {S : St} (h : Km K w M R n c V br S) (hV : V.f = []) (a : Addr) (v : Value) (ha : K a.block) : Km K (w.setCell a v) M R n c V br S := by
  obtain ⟨F, m, hF⟩ := h.ma
  have hne : M ≠ a.block := fun e => h.low (e ▸ ha)
  have hc : Ch (· = a.block) w (w.setCell a v) := Ch.set w a v rfl
  obtain ⟨b, fc, h1, h2, h3, h4⟩ := m.blk
  have hh := (m.held.ch (hc.mono (Q := F) (fun i _ hi => by subst hi; exact hF _ ha))).thin (G := F) (fun i hi => .inl hi)
  refine ⟨⟨F, ⟨⟨b, fc, h1.ch hc (fun e => hne e), ?_, h3, h4⟩, hh, m.own⟩, hF⟩, h.low⟩
  rw [hV] at h2 ⊢
  exact ⟨h2.1, h2.2.1, h2.2.2.1, fun h0 => by simp at h0⟩
theorem kd_new (q : Nat) (w : World) (hq : q ≤ 9223372036854775807) (n : Int) (hn : n = q) :
    Calls Tryz.prog 9 #[.int .i64 n] w fun e w' => ∃ R, e = .returned (.pointer (some ⟨R, 0, none⟩)) ∧ Kd (· < w.heap.size) w' R (newS q) ∧ Same (· < w.heap.size) w w' := by
  refine (new_h q w hq n hn).mono ?_
  rintro e w' ⟨R, rfl, h, hb⟩
  exact ⟨R, rfl, ⟨_, h, fun i hi => hi⟩, same_of hb (fun i hi => hi)⟩
theorem km_new {K : Nat → Prop} {w : World} {R q : Nat} {S' : St} (fa : Option Addr) (fn fc : Nat) (V : Vw) (hd : Kd K w R (newS q)) (h : Fs w fa fn fc V.f) (hc : fc ≤ 9223372036854775807) (hv : vok V = true) (hu : Vnn V) (hN : NewOk leB q (whB V) S') :
    Calls Tryz.prog 10 #[.pointer (some ⟨R, 0, none⟩), vwV fa fn fc V] w fun e w' => ∃ M, e = .returned (.tuple #[.pointer (some ⟨M, 0, none⟩), .int .i64 0]) ∧ Km K w' M R 1 1 V false S' ∧ Same K w w' ∧ w.heap.size ≤ M := by
  have hlt := fun i (hi : K i) => hd.lt hi
  obtain ⟨F, m, hF⟩ := hd
  refine (mnew_any fa fn fc V w m h hc hv hu hN).mono ?_
  rintro e w' ⟨M, F', h1, rfl, h2, h3, h4⟩
  exact ⟨M, rfl, ⟨⟨F', h3, fun i hi => h1 i (hF i hi)⟩, fun hK => by have := hlt _ hK; omega⟩, h4.mono hF, h2⟩
theorem km_save {K : Nat → Prop} {w : World} {M R n c : Nat} {V : Vw} {S : St} (h : Km K w M R n c V false S) (da aa : Option Addr) (dn dc an ac : Nat) (E : Ed) (hzd : Zs w da dn dc E.d) (hfa : Fs w aa an ac E.a) (hdn : dn ≤ 60) (han : an ≤ 60) (hu : 0 ≤ E.fl ∧ 0 ≤ E.ct ∧ 0 ≤ E.at9 ∧ 0 ≤ E.ls)
    (hV : vok V = true) (h1 : 1 ≤ n) (h2 : n < 100) (hc : c ≤ 1000000) (hm : S.calls < 274877906944) :
    Calls Tryz.prog 11 #[.pointer (some ⟨M, 0, none⟩), edV da dn dc aa an ac E] w fun e w' => Same K w w' ∧ (emay E ≠ 0 ∨ appl V E = none → e = .returned (.int .i64 1) ∧ Km K w' M R n c V false S) ∧
      (∀ U, emay E = 0 → appl V E = some U → ∃ E1 ph S', saveS S (mnm n) (fr 6 (ebd E)) = (E1, ph, S') ∧ e = .returned (.int .i64 (E1 : Nat)) ∧ Km K w' M R n (if ph = 0 then c else c + 1) (if ph = 0 then V else U) (decide (ph = 1)) S') := by
  have hlt := fun i (hi : K i) => h.lt hi
  have hlow := h.low
  obtain ⟨F, m, hF⟩ := h.ma
  refine (msave_any m da aa dn dc an ac E hzd hfa hdn han hu (good_once (.inr hV)) h1 h2 hc hm).mono ?_
  rintro e w' ⟨q1, q2⟩
  by_cases hb : emay E ≠ 0 ∨ appl V E = none
  · obtain ⟨e1, hb2⟩ := q1 hb
    refine ⟨same_of hb2 hlt, fun _ => ⟨e1, h.below hb2⟩, fun U a b => ?_⟩
    exfalso
    rcases hb with h | h
    · exact h a
    · rw [h] at b; cases b
  · have a : emay E = 0 := Classical.byContradiction fun h => hb (.inl h)
    cases hap : appl V E with
    | none => exact absurd (Or.inr hap) hb
    | some U =>
      obtain ⟨E1, ph, S', r1, r2, r3, F', r4, r5⟩ := q2 U a hap
      refine ⟨r3.mono fun i hi => ⟨hF i hi, fun e => hlow (e ▸ hi)⟩, fun hx => ?_, fun U' _ b => ?_⟩
      · exfalso; rcases hx with hx | hx
        · exact hx a
        · cases hx
      injection b with b
      subst b
      exact ⟨E1, ph, S', r1, r2, ⟨F', r5, fun i hi => r4 i (hF i hi)⟩, hlow⟩
theorem km_save_broken {K : Nat → Prop} {w : World} {M R n c : Nat} {V : Vw} {S : St} (h : Km K w M R n c V true S) (da aa : Option Addr) (dn dc an ac : Nat) (E : Ed) :
    Calls Tryz.prog 11 #[.pointer (some ⟨M, 0, none⟩), edV da dn dc aa an ac E] w fun e w' => e = .returned (.int .i64 14) ∧ Km K w' M R n c V true S ∧ Below w.heap.size w w' := by
  obtain ⟨F, m, hF⟩ := h.ma
  refine (msave_broken m da aa dn dc an ac E).mono ?_
  rintro e w' ⟨rfl, hb⟩
  exact ⟨rfl, h.below hb, hb⟩
theorem km_rewrite {K : Nat → Prop} {w : World} {M R n c T : Nat} {V : Vw} {S : St} {X : List Int} {L : Nat} (h : Km K w M R n c V false S) (D : Dk S T) (so : Solo leB S n X L) (hT : lk S.names (mnm T) ≠ 0) (hV : vok V = true) (hu : Vnn V) (hd : S.dead = false) (h6 : T + 1 ≤ 60) (hq : tot S + 1334 ≤ 250000) (hq2 : tot S + 1334 ≤ S.q) (hm : S.calls < 68719476736) :
    Calls Tryz.prog 28 #[.pointer (some ⟨M, 0, none⟩)] w fun e w' => ∃ E ph S', renewS S (nextS S) (whB V) (leB (nextS S)) = (E, ph, S') ∧ e = .returned (.int .i64 (E : Nat)) ∧ Km K w' M R (if ph = 0 then n else nextS S) (if ph = 0 then c else 1) V (decide (ph = 1)) S' ∧ Same K w w' := by
  have hlow := h.low
  obtain ⟨F, m, hF⟩ := h.ma
  obtain ⟨s1, s2, s3⟩ := mp_steps (V := V) D so hT (whB_facts (whole_may hV hu)).2 hd h6 hq hq2
  refine (mrewrite_any m D hV hu hm s1 s2 s3).mono ?_
  rintro e w' ⟨E, ph, S', q1, rfl, q3, q4⟩
  exact ⟨E, ph, S', q1, rfl, ⟨⟨F, q3, hF⟩, hlow⟩, q4.mono fun i hi => ⟨hF i hi, fun e => hlow (e ▸ hi)⟩⟩
theorem km_rewrite_dead {K : Nat → Prop} {w : World} {M R n c T : Nat} {V : Vw} {S : St} (h : Km K w M R n c V false S) (D : Dk S T) (hV : vok V = true) (hu : Vnn V) (hd : S.dead = true) (hm : S.calls < 68719476736) :
    Calls Tryz.prog 28 #[.pointer (some ⟨M, 0, none⟩)] w fun e w' => e = .returned (.int .i64 50) ∧ Km K w' M R n c V false { S with calls := S.calls + 1 } ∧ Same K w w' := by
  have hlow := h.low
  obtain ⟨F, m, hF⟩ := h.ma
  have hn : nextS S = 1 := next_dead hd
  have hr := renew_dead (W := whB V) (Z := leB 1) hd (show 1 < 100 by decide)
  refine (mrewrite_any m D hV hu hm (by rw [hn]; decide) (fun E1 S1 e1 => ?_) (fun S4 e4 => ?_)).mono ?_
  · rw [hn] at e1
    have hb : beginS S = (50, { S with calls := S.calls + 1 }) := by unfold beginS; rw [if_pos hd]
    have h1 : createS S (mnm 1) = (50, { S with calls := S.calls + 1 }) := by
      unfold createS
      rw [if_neg (by decide), hb, if_pos (show (50 : Nat) ≠ 0 by decide)]
    unfold layS at e1
    rw [h1] at e1
    injection e1 with _ e1
    subst e1
    exact ⟨T, (Eqf.mk rfl rfl rfl rfl rfl rfl : Eqf S { S with calls := S.calls + 1 }).dk D⟩
  · exfalso
    rw [hn] at e4
    have : renewS S 1 (whB V) (leB 1) = (0, 2, sweepL 1 (if S4.dead then [] else namesL S4) S4) := by unfold renewS; rw [e4]; rfl
    rw [hr] at this
    injection this with h1 _
    cases h1
  rintro e w' ⟨E, ph, S', q1, rfl, q3, q4⟩
  rw [hn, hr] at q1
  injection q1 with r1 r2
  injection r2 with r2 r3
  subst r1 r2 r3
  exact ⟨rfl, ⟨⟨F, q3, hF⟩, hlow⟩, q4.mono fun i hi => ⟨hF i hi, fun e => hlow (e ▸ hi)⟩⟩
theorem km_rewrite_broken {K : Nat → Prop} {w : World} {M R n c : Nat} {V : Vw} {S : St} (h : Km K w M R n c V true S) :
    Calls Tryz.prog 28 #[.pointer (some ⟨M, 0, none⟩)] w fun e w' => e = .returned (.int .i64 14) ∧ w' = w := by
  obtain ⟨F, m, hF⟩ := h.ma
  exact mrewrite_broken m
theorem km_view {K : Nat → Prop} {w : World} {M R n c : Nat} {V : Vw} {br : Bool} {S : St} (h : Km K w M R n c V br S) (hn : V.f.length ≤ 100000) :
    Calls Tryz.prog 15 #[.pointer (some ⟨M, 0, none⟩)] w fun e w' => ∃ a c', e = .returned (vwV a V.f.length c' V) ∧ c' ≤ 9223372036854775807 ∧ Fs w' a V.f.length c' V.f ∧ Km K w' M R n c V br S ∧ Below w.heap.size w w' := by
  obtain ⟨F, m, hF⟩ := h.ma
  refine (mview_any m hn).mono ?_
  rintro e w' ⟨a, c', rfl, h1, -, h2, -, hb⟩
  exact ⟨a, c', rfl, h1, h2, h.below hb, hb⟩
theorem km_name {K : Nat → Prop} {w : World} {M R n c : Nat} {V : Vw} {br : Bool} {S : St} (h : Km K w M R n c V br S) (h1 : 1 ≤ n) (h2 : n < 100) : Calls Tryz.prog 19 #[.pointer (some ⟨M, 0, none⟩)] w fun e w' => e = .returned (.string (mnm n)) ∧ w' = w := by
  obtain ⟨F, m, hF⟩ := h.ma
  exact mname_any m h1 h2
theorem km_count {K : Nat → Prop} {w : World} {M R n c : Nat} {V : Vw} {br : Bool} {S : St} (h : Km K w M R n c V br S) : Calls Tryz.prog 13 #[.pointer (some ⟨M, 0, none⟩)] w fun e w' => e = .returned (.int .i64 c) ∧ w' = w := by
  obtain ⟨F, m, hF⟩ := h.ma
  exact mcount_any m
theorem km_broken {K : Nat → Prop} {w : World} {M R n c : Nat} {V : Vw} {br : Bool} {S : St} (h : Km K w M R n c V br S) : Calls Tryz.prog 30 #[.pointer (some ⟨M, 0, none⟩)] w fun e w' => e = .returned (.bool br) ∧ w' = w := by
  obtain ⟨F, m, hF⟩ := h.ma
  exact mbroken_any m
/-- Open, where current leads to a log that reads as a View. -/
theorem kd_open_go {K : Nat → Prop} {w : World} {R n T k : Nat} {S : St} {X : List Int} {L : Nat} {V : Vw} (h : Kd K w R S) (D : Dk S T) (hT : lk S.names (mnm T) ≠ 0) (hd : S.dead = false) (so : Solo leB S n X L) (hr : rpE X = some (V, k)) (hu : Vnn V) (h6 : T + 1 ≤ 60) (hq : tot S + 1334 ≤ 250000) (hq2 : tot S + 1334 ≤ S.q) (hm : S.calls < 68719476736) :
    Calls Tryz.prog 12 #[.pointer (some ⟨R, 0, none⟩)] w fun e w' => Same K w w' ∧
      (k = X.length ∧ (SP (X.take k)).1.length ≤ 30 → ∃ M, e = .returned (.tuple #[.pointer (some ⟨M, 0, none⟩), .int .i64 0]) ∧ Km K w' M R n (SP (X.take k)).1.length V false S ∧ Below w.heap.size w w' ∧ w.heap.size ≤ M) ∧
      (¬ (k = X.length ∧ (SP (X.take k)).1.length ≤ 30) → ∃ E ph S', renewS S (nextS S) (whB V) (leB (nextS S)) = (E, ph, S') ∧ Kd K w' R S' ∧ (E ≠ 0 → e = .returned (.tuple #[.pointer none, .int .i64 (E : Nat)])) ∧
        (E = 0 → ∃ M, e = .returned (.tuple #[.pointer (some ⟨M, 0, none⟩), .int .i64 0]) ∧ Km K w' M R (if ph = 0 then n else nextS S) (if ph = 0 then (SP (X.take k)).1.length else 1) V (decide (ph = 1)) S' ∧ w.heap.size ≤ M)) := by
  have hlt := fun i (hi : K i) => h.lt hi
  obtain ⟨F, m, hF⟩ := h
  obtain ⟨r1, r2⟩ := solo_reads D hd so
  obtain ⟨-, -, hvk⟩ := rpE_le hr
  obtain ⟨s1, s2, s3⟩ := mp_steps (V := V) D so hT (whB_facts (whole_may hvk hu)).2 hd h6 hq hq2
  refine (open_any m D r1 (ldP_leB so.low.1 so.low.2) so.low.1 so.low.2 r2 hr hu hm s1 s2 s3).mono ?_
  rintro e w' ⟨q1, q2⟩
  by_cases hc : k = X.length ∧ (SP (X.take k)).1.length ≤ 30
  · obtain ⟨M, F', f1, rfl, f2, f3, f4⟩ := q1 ⟨decide_eq_true hc.1, hc.2⟩
    exact ⟨same_of f3 hlt, fun _ => ⟨M, rfl, ⟨⟨F', f2, fun i hi => f1 i (hF i hi)⟩, fun hK => by have := hlt _ hK; omega⟩, f3, f4⟩, fun h => absurd hc h⟩
  · obtain ⟨E, ph, S', f1, f2, f3, f4, f5⟩ := q2 (fun h => hc ⟨of_decide_eq_true h.1, h.2⟩)
    refine ⟨f2.mono hF, fun h => absurd h hc, fun _ => ⟨E, ph, S', f1, ⟨F, f3, hF⟩, f4, fun hE => ?_⟩⟩
    obtain ⟨M, F', g1, g2, g3, g4⟩ := f5 hE
    exact ⟨M, g2, ⟨⟨F', g3, fun i hi => g1 i (hF i hi)⟩, fun hK => by have := hlt _ hK; omega⟩, g4⟩
/-- The Disk's own calls. -/
theorem kd_create {K : Nat → Prop} {w : World} {R : Nat} {S : St} (s : ByteArray) {E : Nat} {S' : St} (e : createS S s = (E, S')) (h : Kd K w R S) (hm : S.calls < 1099511627776) (hs : s.size ≤ 70368744177664) :
    Calls Tryz.prog 21 #[.pointer (some ⟨R, 0, none⟩), .string s] w fun e w' => e = .returned (.int .i64 E) ∧ Kd K w' R S' ∧ Same K w w' := by
  obtain ⟨F, m, hF⟩ := h
  refine (create_h s e m hm hs).mono ?_
  rintro e w' ⟨rfl, h2, h3⟩
  exact ⟨rfl, ⟨F, h2, hF⟩, h3.mono hF⟩
theorem kd_remove {K : Nat → Prop} {w : World} {R : Nat} {S : St} (s : ByteArray) {E : Nat} {S' : St} (e : rmvS S s = (E, S')) (h : Kd K w R S) (hm : S.calls < 1099511627776) (hs : s.size ≤ 70368744177664) :
    Calls Tryz.prog 20 #[.pointer (some ⟨R, 0, none⟩), .string s] w fun e w' => e = .returned (.int .i64 E) ∧ Kd K w' R S' ∧ Same K w w' := by
  obtain ⟨F, m, hF⟩ := h
  refine (remove_h s e m hm hs).mono ?_
  rintro e w' ⟨rfl, h2, h3⟩
  exact ⟨rfl, ⟨F, h2, hF⟩, h3.mono hF⟩
theorem kd_read {K : Nat → Prop} {w : World} {R : Nat} {S : St} (s : ByteArray) {E : Nat} {zs : List Int} (e : readS S s = (E, zs)) (h : Kd K w R S) (hs : s.size ≤ 70368744177664) :
    Calls Tryz.prog 18 #[.pointer (some ⟨R, 0, none⟩), .string s] w fun e w' => ∃ ao cap, e = .returned (.tuple #[.slice ao zs.length cap, .int .i64 E]) ∧ Own w' w.heap.size (.slice ao zs.length cap) zs ∧ Below w.heap.size w w' := by
  obtain ⟨F, m, hF⟩ := h
  refine (read_h s e m hs).mono ?_
  rintro e w' ⟨ao, cap, rfl, h1, h2, h3⟩
  exact ⟨ao, cap, rfl, h1, h3⟩
theorem kd_list {K : Nat → Prop} {R : Nat} {S : St} {T : Nat} {w : World} (h : Kd K w R S) (D : Dk S T) (hm : S.calls ≤ 1099511627776) :
    Calls Tryz.prog 16 #[.pointer (some ⟨R, 0, none⟩)] w fun e w' => ∃ so sc, e = .returned (.slice so (listS S).length sc) ∧ (listS S).length ≤ 62 ∧ Below w.heap.size w w' := by
  obtain ⟨F, m, hF⟩ := h
  refine (mlist_any m D hm).mono ?_
  rintro e w' ⟨so, sc, rfl, h1, -, -, h3⟩
  exact ⟨so, sc, rfl, h1, h3⟩

end Go.Proofs.YtcahlmneancapaaGreatDoor.Clep

/- Edits one behind the other, as a function. No conditions. -/
namespace Go.Proofs.YtcahlmneancapaaGreatDoor.Clep
open Go.RowKit
set_option linter.unusedVariables false
set_option maxRecDepth 10000

end Go.Proofs.YtcahlmneancapaaGreatDoor.Clep
