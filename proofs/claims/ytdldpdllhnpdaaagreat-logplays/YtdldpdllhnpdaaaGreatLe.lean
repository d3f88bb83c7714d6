/- A Log over a Disk: where it lies; what begin, New, Put and Count do when called (walks over the translated program). Conditions: fewer than 2^40 calls of the Disk, a Log of at most a million bytes and batches. -/
import Derived.Test.YtdldpdllhnpdaaaGreatLa
import Derived.Test.YtdldpdllhnpdaaaGreatYf
import Derived.Test.YtdldpdllhnpdaaaGreatZg
import Derived.Test.YtdldpdllhnpdaaaGreatZe
import Derived.Test.YtdldpdllhnpdaaaGreatLb
namespace Go.Proofs.YtdldpdllhnpdaaaGreat.Clep
open Go.RowKit Go.Maps
set_option linter.unusedVariables false
set_option maxRecDepth 10000

/-- Only blocks that are not the Disk's changed: it is as it was, and all that is new is not the Disk's. -/
theorem Held.ch {F : Nat → Prop} {w w' : World} {R : Nat} {S : St} (h : Held F w R S) (hc : Ch F w w') : Held (fun i => F i ∨ (w.heap.size ≤ i ∧ i < w'.heap.size)) w' R S := by
  obtain ⟨G, D, hF⟩ := h
  have T : Turn G.τ (fun n => n = 0) w w' := ⟨hc.size, fun i hi ht => hc.block i hi (fun hf => ht (hF i hf).2)⟩
  obtain ⟨M, f1, f2, f3⟩ := D.fm
  refine ⟨G, ⟨drow_keep T D.row (by rw [D.tR]; omega), ⟨M, map_keep T f1 (by rw [D.tf]; omega), f2, f3⟩, map_keep T D.nm (by rw [D.tn]; omega), map_keep T D.lm (by rw [D.tl]; omega), owns_keep T D.sc (fun g hg => by rw [D.ts g hg]; omega), fun f hf => file_keep T (D.files f hf) (by omega) (by omega), D.tR, D.tf, D.tn, D.tl, D.ts, fun i hi => D.top i (Nat.le_trans hc.size hi), D.ok⟩, fun i hi => ?_⟩
  rcases hi with hi | hi
  · exact ⟨Nat.lt_of_lt_of_le (hF i hi).1 hc.size, (hF i hi).2⟩
  · exact ⟨hi.2, D.top _ hi.1⟩
theorem Held.lt {F : Nat → Prop} {w : World} {R : Nat} {S : St} (h : Held F w R S) {i : Nat} (hi : F i) : i < w.heap.size := by
  obtain ⟨G, D, hF⟩ := h
  exact (hF i hi).1
theorem Same.blk {F : Nat → Prop} {w w' : World} (h : Same F w w') {b : Nat} {cs : Array Value} {T : TypeId} (hb : Blk w b cs T) (hf : F b) : Blk w' b cs T := by
  unfold Blk at *
  rw [h.block b hf]; exact hb
theorem same_of {F : Nat → Prop} {w w' : World} (h : Below w.heap.size w w') (hF : ∀ i, F i → i < w.heap.size) : Same F w w' := ⟨h.os, h.tape, h.output, h.size, fun i hi => h.block i (hF i hi)⟩
theorem same_ch {F P : Nat → Prop} {w w' : World} (h : Ch P w w') (hF : ∀ i, F i → i < w.heap.size ∧ ¬ P i) : Same F w w' := ⟨h.os, h.tape, h.output, h.size, fun i hi => h.block i (hF i hi).1 (hF i hi).2⟩
theorem same_drew (F : Nat → Prop) (w : World) : Same F w w.drew := ⟨rfl, rfl, rfl, Nat.le_refl _, fun _ _ => rfl⟩

/-- A Log's own block. -/
def lgV (R : Nat) (s : ByteArray) (t : Bool) (sz ct : Nat) : Array Value := #[.pointer (some ⟨R, 0, none⟩), .string s, .bool t, .int .i64 sz, .int .i64 ct]
/-- A Log in block L over the Disk at R; F: blocks that are not the Disk's. -/
structure Lo (F : Nat → Prop) (w : World) (L R : Nat) (s : ByteArray) (t : Bool) (sz ct : Nat) (S : St) : Prop where
  blk : Blk w L (lgV R s t sz ct) 67
  held : Held F w R S
  own : F L
theorem Lo.cells {F : Nat → Prop} {w : World} {L R : Nat} {s : ByteArray} {t : Bool} {sz ct : Nat} {S : St} (h : Lo F w L R s t sz ct S) :
    w.cell? ⟨L, 0, none⟩ = some (.pointer (some ⟨R, 0, none⟩)) ∧ w.cell? ⟨L, 1, none⟩ = some (.string s) ∧ w.cell? ⟨L, 2, none⟩ = some (.bool t) ∧ w.cell? ⟨L, 3, none⟩ = some (.int .i64 sz) ∧ w.cell? ⟨L, 4, none⟩ = some (.int .i64 ct) :=
  ⟨h.blk.cell rfl, h.blk.cell rfl, h.blk.cell rfl, h.blk.cell rfl, h.blk.cell rfl⟩
theorem Lo.below {F : Nat → Prop} {w w' : World} {L R : Nat} {s : ByteArray} {t : Bool} {sz ct : Nat} {S : St} (h : Lo F w L R s t sz ct S) (hb : Below w.heap.size w w') : Lo F w' L R s t sz ct S :=
  ⟨h.blk.keep hb, (h.held.same hb).1, h.own⟩
theorem lbegin_any (R : Nat) (s : ByteArray) (w : World) (hs : s.size ≤ 70368744177664) :
    Calls Tryz.prog 22 #[.pointer (some ⟨R, 0, none⟩), .string s] w fun e w' => ∃ L, e = .returned (.pointer (some ⟨L, 0, none⟩)) ∧ Blk w' L (lgV R s false 0 0) 67 ∧ w.heap.size ≤ L ∧ Below w.heap.size w w' := by
  have C := hide (strClone_any s w hs)
  go_enter Tryz.func22, Tryz.ntmps22
  go_wp2_with fail
  refine C.out.mono ?_
  rintro e w1 ⟨rfl, hb⟩
  have HB := hide hb
  have HK := hide (MapKept.heap_alloc w1 (Obj.cells (lgV R s false 0 0) 67)).1
  have HB2 := hide (hb.alloc hb.size (Obj.cells (lgV R s false 0 0) 67))
  unfold lgV at HK HB2
  clear hb C
  go_wp2
  go_ret
  exact ⟨_, rfl, HK.out, HB.out.size, HB2.out⟩

theorem lnew_any {F : Nat → Prop} {R : Nat} {S : St} {w : World} (s : ByteArray) {E : Nat} {S' : St} (e : createS S s = (E, S')) (h : Held F w R S) (hm : S.calls < 1099511627776) (hs : s.size ≤ 70368744177664) :
    Calls Tryz.prog 7 #[.pointer (some ⟨R, 0, none⟩), .string s] w fun e w' => Same F w w' ∧ ((E = 0 ∧ ∃ L, e = .returned (.tuple #[.pointer (some ⟨L, 0, none⟩), .int .i64 0]) ∧ w.heap.size ≤ L ∧ Lo (fun i => F i ∨ i = L) w' L R s false 0 0 S') ∨ (E ≠ 0 ∧ e = .returned (.tuple #[.pointer none, .int .i64 E]) ∧ Held F w' R S')) := by
  have C := hide (create_h s e h hm hs)
  have HF := hide (fun i (hi : F i) => h.lt hi)
  clear h
  by_cases h0 : E = 0
  · subst h0
    go_enter Tryz.func7, Tryz.ntmps7
    go_wp2_with fail
    refine C.out.mono ?_
    rintro e w1 ⟨rfl, h1, s1⟩
    have H1 := hide h1
    have S1 := hide s1
    have B := hide (lbegin_any R s w1 hs)
    clear h1 s1 C
    go_wp2_with fail
    refine B.out.mono ?_
    rintro e w2 ⟨L, rfl, hb2, hL, hbel⟩
    have HR := hide (show Same F w w2 ∧ w.heap.size ≤ L ∧ Lo (fun i => F i ∨ i = L) w2 L R s false 0 0 S' from ⟨S1.out.trans (same_of hbel (fun i hi => H1.out.lt hi)), Nat.le_trans S1.out.size hL, hb2, (H1.out.wide hbel).less (fun i hi => by
      rcases hi with hi | hi
      · exact .inl hi
      · subst hi; exact .inr ⟨hL, hb2.lt⟩), .inr rfl⟩)
    clear hb2 hL hbel B H1
    go_wp2
    go_ret2
    exact ⟨HR.out.1, .inl ⟨(by first | rfl | trivial), L, rfl, HR.out.2⟩⟩
  · have hne : ¬ ((E : Int) = 0) := by omega
    go_enter Tryz.func7, Tryz.ntmps7
    go_wp2_with fail
    refine C.out.mono ?_
    rintro e w1 ⟨rfl, h1, s1⟩
    have H1 := hide h1
    have S1 := hide s1
    clear h1 s1 C
    go_wp2
    go_ret2
    exact ⟨S1.out, .inr ⟨h0, rfl, H1.out⟩⟩
theorem lnew_ok {F : Nat → Prop} {R : Nat} {S : St} {w : World} (s : ByteArray) {S' : St} (e : createS S s = (0, S')) (h : Held F w R S) (hm : S.calls < 1099511627776) (hs : s.size ≤ 70368744177664) :
    Calls Tryz.prog 7 #[.pointer (some ⟨R, 0, none⟩), .string s] w fun e w' => ∃ L, e = .returned (.tuple #[.pointer (some ⟨L, 0, none⟩), .int .i64 0]) ∧ w.heap.size ≤ L ∧ Lo (fun i => F i ∨ i = L) w' L R s false 0 0 S' ∧ Same F w w' := by
  refine (lnew_any s e h hm hs).mono ?_
  rintro e w' ⟨h1, ⟨-, L, h2, h3, h4⟩ | ⟨h0, -⟩⟩
  · exact ⟨L, h2, h3, h4, h1⟩
  · exact absurd rfl h0
theorem lnew_nil (s : ByteArray) (w : World) : Calls Tryz.prog 7 #[.pointer none, .string s] w fun e w' => e = .returned (.tuple #[.pointer none, .int .i64 1]) ∧ w' = w := by
  go_enter Tryz.func7, Tryz.ntmps7
  go_wp2
  go_ret2
  exact ⟨rfl, rfl⟩

theorem lput_torn {F : Nat → Prop} {w : World} {L R : Nat} {s : ByteArray} {sz ct : Nat} {S : St} (h : Lo F w L R s true sz ct S) (v : Value) :
    Calls Tryz.prog 11 #[.pointer (some ⟨L, 0, none⟩), v] w fun e w' => e = .returned (.int .i64 9) ∧ w' = w := by
  obtain ⟨c0, c1, c2, c3, c4⟩ := h.cells
  clear h
  go_enter Tryz.func11, Tryz.ntmps11
  go_wp2
  go_ret
  exact ⟨rfl, rfl⟩
theorem lput_bad {F : Nat → Prop} {w : World} {L R : Nat} {s : ByteArray} {sz ct : Nat} {S : St} (h : Lo F w L R s false sz ct S) (a : Option Addr) (n c : Nat) (l : List It) (hi : Is w a n c l) (hn : n ≤ 9223372036854775807) (E : Int) (hE : bmay l = E) (hne : E ≠ 0) :
    Calls Tryz.prog 11 #[.pointer (some ⟨L, 0, none⟩), .slice a n c] w fun e w' => e = .returned (.int .i64 E) ∧ Below w.heap.size w w' := by
  obtain ⟨c0, c1, c2, c3, c4⟩ := h.cells
  have C := hide (batch_bad a n c l w hi hn E hE hne)
  clear h hE
  go_enter Tryz.func11, Tryz.ntmps11
  go_wp2_with fail
  refine C.out.mono ?_
  rintro e w1 ⟨rfl, hb⟩
  have HB := hide hb
  clear hb C
  go_wp2
  go_ret
  exact ⟨rfl, HB.out⟩
theorem lo_set {F : Nat → Prop} {w : World} {L R : Nat} {s : ByteArray} {t : Bool} {sz ct : Nat} {S : St} (h : Lo F w L R s t sz ct S) (sz' ct' : Nat) :
    Lo F ((w.setCell ⟨L, 3, none⟩ (.int .i64 sz')).setCell ⟨L, 4, none⟩ (.int .i64 ct')) L R s t sz' ct' S ∧ Same (fun i => F i ∧ i ≠ L) w ((w.setCell ⟨L, 3, none⟩ (.int .i64 sz')).setCell ⟨L, 4, none⟩ (.int .i64 ct')) := by
  have c1 : Ch (fun i => i = L) w (w.setCell ⟨L, 3, none⟩ (.int .i64 sz')) := Ch.set w ⟨L, 3, none⟩ _ rfl
  have c2 : Ch (fun i => i = L) (w.setCell ⟨L, 3, none⟩ (.int .i64 sz')) ((w.setCell ⟨L, 3, none⟩ (.int .i64 sz')).setCell ⟨L, 4, none⟩ (.int .i64 ct')) := Ch.set _ ⟨L, 4, none⟩ _ rfl
  have c := c1.trans c2
  refine ⟨⟨(h.blk.set 3 _).set 4 _, (h.held.ch (c.mono (fun i _ e => by subst e; exact h.own))).less (fun i hi => .inl hi), h.own⟩, same_ch c (fun i hi => ⟨h.held.lt hi.1, hi.2⟩)⟩
set_option maxHeartbeats 1000000 in
theorem lput_any {F : Nat → Prop} {w : World} {L R : Nat} {s : ByteArray} {sz ct : Nat} {S : St} (h : Lo F w L R s false sz ct S) (a : Option Addr) (n c : Nat) (l : List It) (hi : Is w a n c l) (hg : Bg l) {E : Nat} {S' : St} (e : appendS S s (bt l) = (E, S'))
    (hm : S.calls < 1099511627776) (hs : s.size ≤ 70368744177664) (hsz : sz ≤ 1000000) (hct : ct ≤ 1000000) :
    Calls Tryz.prog 11 #[.pointer (some ⟨L, 0, none⟩), .slice a n c] w fun e w' => e = .returned (.int .i64 E) ∧ Lo F w' L R s false (if E = 0 then sz + (bt l).length else sz) (if E = 0 then ct + 1 else ct) S' ∧ Same (fun i => F i ∧ i ≠ L) w w' := by
  obtain ⟨c0, c1, c2, c3, c4⟩ := h.cells
  have C := hide (batch_ok a n c l w hi hg)
  have H := hide h
  have HE := hide e
  have hN : (bt l).length ≤ 60012 := by rw [bt_len]; have := hg.sz; omega
  have HRG := hide (range_of (bt_range hg))
  clear h e hi hg
  generalize hNN : (bt l).length = N at *
  have HNN := hide hNN
  clear hNN
  go_enter Tryz.func11, Tryz.ntmps11
  go_wp2_with fail
  refine C.out.mono ?_
  rintro e w1 ⟨v, rfl, ho, hb⟩
  obtain ⟨a1, c1', hv, hcm, hB, hbk⟩ := own_bs ho HRG.out
  rw [HNN.out] at hv hB
  subst hv
  have L1 := hide (H.out.below hb)
  have S1 := hide (same_of (F := F) hb (fun i hi => H.out.held.lt hi))
  have AP := hide (append_h s a1 N c1' (bt l) HE.out ((H.out.held.wide hb).same ((Below.refl _ w1).drew)).1 hm hs (hB.below ((Below.refl _ w1).drew) (Nat.le_refl _)) (by omega) (fun b off hx => .inr ⟨(hbk b off hx).1, (hbk b off hx).2.1⟩))
  have HW1 := hide hb.size
  clear ho hb hB hbk C c0 c1 c2 c3 c4 hcm
  obtain ⟨c0, c1, c2, c3, c4⟩ := (L1.out.below ((Below.refl _ w1).drew)).cells
  have HK0 := And.intro c0 c1
  have HK2 := hide (show ∀ W, Same (fun i => F i ∨ w.heap.size ≤ i ∧ i < w1.heap.size) w1.drew W → W.cell? ⟨L, 0, none⟩ = some (.pointer (some ⟨R, 0, none⟩)) ∧ W.cell? ⟨L, 1, none⟩ = some (.string s) from fun W hW => by
    have := hW.blk (L1.out.below ((Below.refl _ w1).drew)).blk (.inl H.out.own)
    exact ⟨this.cell rfl, this.cell rfl⟩)
  go_wp2_with fail
  go_region_held_law (fun W => W.cell? ⟨L, 0, none⟩ = some (.pointer (some ⟨R, 0, none⟩)) ∧ W.cell? ⟨L, 1, none⟩ = some (.string s))
    (first | exact HK0 | exact HK2.out _ (by with_reducible assumption))
    (first | (go_at_call 28; refine AP.out.mono ?_; rintro e w2 ⟨rfl, h2, s2⟩))
  have L2 : Hid (Lo F w2 L R s false sz ct S') := hide ⟨s2.blk (L1.out.below ((Below.refl _ w1).drew)).blk (.inl H.out.own), h2.less (fun i hi => .inl hi), H.out.own⟩
  have S2 := hide (S1.out.trans ((same_drew F w1).trans (s2.mono (fun i hi => .inl hi))))
  clear h2 s2 AP c0 c1 c2 c3 c4 L1 S1 HK0 HK2
  obtain ⟨c0, c1, c2, c3, c4⟩ := L2.out.cells
  have f3 := L2.out.blk.free 3
  have f4 := L2.out.blk.free 4
  by_cases h0 : E = 0
  · subst h0
    have LS := hide (lo_set L2.out (sz + N) (ct + 1))
    have c4' : (w2.setCell ⟨L, 3, none⟩ (.int .i64 ((sz : Int) + (N : Int)))).cell? ⟨L, 4, none⟩ = some (.int .i64 ct) := by
      rw [World.cell?_setCell_other w2 ⟨L, 3, none⟩ ⟨L, 4, none⟩ _ (by intro q; injection q with q1 q2; omega)]; exact c4
    have f4' : (w2.setCell ⟨L, 3, none⟩ (.int .i64 ((sz : Int) + (N : Int)))).frozen? ⟨L, 4, none⟩ = false := by simpa using f4
    have AD := hide (add_any L 4 ct 1 (w2.setCell ⟨L, 3, none⟩ (.int .i64 ((sz : Int) + (N : Int)))) c4' f4' (by omega) (by omega))
    clear c4' f4' c0 c1 c2 c4 f4 H
    go_wp2_with fail
    refine AD.out.mono ?_
    rintro e w3 ⟨rfl, hw3⟩
    have HL : Hid (Lo F w3 L R s false (sz + N) (ct + 1) S' ∧ Same (fun i => F i ∧ i ≠ L) w2 w3) := hide (by rw [hw3]; exact LS.out)
    clear hw3 AD LS
    go_wp2
    go_ret
    exact ⟨rfl, (by first | exact HL.out.1 | (simp; exact HL.out.1)), (S2.out.mono (fun i hi => hi.1)).trans HL.out.2⟩
  · have hne : ¬ ((E : Int) = 0) := by omega
    have HL : Hid (Lo F w2 L R s false (if E = 0 then sz + N else sz) (if E = 0 then ct + 1 else ct) S') := hide (by rw [if_neg h0, if_neg h0]; exact L2.out)
    clear c0 c1 c2 c3 c4 f3 f4 H
    go_wp2
    go_ret
    exact ⟨rfl, (by first | exact HL.out | exact L2.out | (simp [h0]; exact L2.out)), S2.out.mono (fun i hi => hi.1)⟩
theorem lcount_any {F : Nat → Prop} {w : World} {L R : Nat} {s : ByteArray} {t : Bool} {sz ct : Nat} {S : St} (h : Lo F w L R s t sz ct S) :
    Calls Tryz.prog 14 #[.pointer (some ⟨L, 0, none⟩)] w fun e w' => e = .returned (.int .i64 ct) ∧ w' = w := by
  obtain ⟨c0, c1, c2, c3, c4⟩ := h.cells
  have C := hide (load_any L 4 ct w c4)
  clear h
  go_enter Tryz.func14, Tryz.ntmps14
  go_wp2_with fail
  refine C.out.mono ?_
  rintro e w1 ⟨rfl, rfl⟩
  go_wp2
  go_ret
  exact ⟨rfl, rfl⟩

end Go.Proofs.YtdldpdllhnpdaaaGreat.Clep

/- What the statements' own function awake answers when called: true, in new memory alone. No conditions. -/
namespace Go.Proofs.YtdldpdllhnpdaaaGreat.Clep
open Go.RowKit Go.Maps
set_option linter.unusedVariables false
set_option maxRecDepth 10000

def x0 : It := ⟨1, 2, 0, 2, 0⟩
theorem x0_bg : Bg [x0] := by
  have hk : [x0].all It.ok = true := by kernel_rfl
  have := ibn_short [x0] hk
  refine ⟨by simp, fun x hx => ?_, hk, by simp, by simp at this; omega⟩
  rw [List.mem_singleton.1 hx]; unfold x0 It.wf; simp
theorem x0_is (w : World) : Is (w.alloc (Obj.cells #[Value.int IntKind.i64 1, Value.int IntKind.i64 2, Value.int IntKind.u64 0, Value.int IntKind.u64 2, Value.int IntKind.i64 0] 48)) (some ⟨w.heap.size, 0, none⟩) 1 1 [x0] :=
  is_one w 1 2 0 2 0 (by unfold It.wf; simp)
theorem x0_len : (bt [x0]).length ≤ 100 := by
  have := ibn_short [x0] x0_bg.ok
  rw [bt_len]; simp at this; omega
def nm1 : ByteArray := ⟨#[108, 111, 103, 46, 49]⟩
def nk1 : Lit := .string [108, 111, 103, 46, 49]
/-- A Disk with one file, of the name log.1. -/
def ak (q c : Nat) (X : List Int) : St := ⟨q, c, 0, 0, false, 1, [⟨1, X, 0⟩], .map [(nk1, i64L 1)], .map [], [⟨0, nm1, ⟨#[]⟩, 1⟩]⟩
theorem ak_new (q : Nat) : createS (newS q) nm1 = (0, ak q 1 []) := by kernel_rfl
theorem ak_app (q c : Nat) (X p : List Int) (h : X.length + p.length ≤ 250000) (hq : X.length + p.length ≤ q) : appendS (ak q c X) nm1 p = (0, ak q (c + 1) (X ++ p)) := by
  have e : appendS (ak q c X) nm1 p = if 250000 < X.length + p.length then (2, (beginS (ak q c X)).2) else if q < X.length + 0 + p.length then (15, (beginS (ak q c X)).2) else (0, ak q (c + 1) (X ++ p)) := by kernel_rfl
  rw [e, if_neg (by omega), if_neg (by omega)]
theorem rp_none : rp [] = ([], 0, 0) := rfl

set_option maxHeartbeats 1000000 in
theorem lawake_core (w : World) (l : List It) (hg : Bg l) (hlen : (bt l).length ≤ 100)
    (hone : ∀ w1 : World, Is (w1.alloc (Obj.cells #[Value.int IntKind.i64 1, Value.int IntKind.i64 2, Value.int IntKind.u64 0, Value.int IntKind.u64 2, Value.int IntKind.i64 0] 48)) (some ⟨w1.heap.size, 0, none⟩) 1 1 l) :
    Calls Tryz.prog 5 #[] w fun e w' => e = .returned (.bool true) ∧ Below w.heap.size w w' := by
  have NW := hide (new_h 10000 w (by omega) 10000 rfl)
  have HG := hide hg
  have HO := hide hone
  have hap := hide (ak_app 10000 1 [] (bt l) (by simp; omega) (by simp; omega))
  clear hone hg hlen
  go_enter Tryz.func5, Tryz.ntmps5
  go_wp2_with fail
  refine NW.out.mono ?_
  rintro e w1 ⟨R, rfl, H1, B1⟩
  have LN := hide (lnew_ok nm1 (ak_new 10000) H1 (by decide) (by decide))
  have HB1 := hide B1
  have HW1 := hide B1.size
  clear H1 B1 NW
  go_wp2_with fail
  refine LN.out.mono ?_
  rintro e w2 ⟨L, rfl, hL, hlo, hs2⟩
  have HB2 := hide (HB1.out.trans (hs2.below (fun i hi => hi)))
  have HL2 := hide hlo
  have RP := hide (replay_any none 0 0 [] w2 (by omega) (bs_nil w2))
  clear hs2 hlo LN HB1
  go_wp2_with fail
  refine RP.out.mono ?_
  rintro e w3 ⟨v, ys, rfl, hor, hym, hb3, -⟩
  obtain rfl : ys = [] := by
    rw [rp_none] at hym
    exact List.map_eq_nil_iff.1 hym
  obtain ⟨a3, c3, rfl, -, -⟩ := hor.rws
  rw [rp_none]
  have HB3 := hide (HB2.out.trans (hb3.mono HB2.out.size))
  have HL3 := hide (HL2.out.below hb3)
  have A0 := (Below.refl _ w3).alloc (Nat.le_refl _) (Obj.cells #[Value.int IntKind.i64 1, Value.int IntKind.i64 2, Value.int IntKind.u64 0, Value.int IntKind.u64 2, Value.int IntKind.i64 0] 48)
  have PT := hide (lput_any (HL3.out.below A0) _ 1 1 l (HO.out w3) HG.out hap.out (by decide) (by decide) (by omega) (by omega))
  have HB4 := hide (HB3.out.trans (A0.mono HB3.out.size))
  have hlw := hide (show w.heap.size ≤ L from Nat.le_trans HW1.out hL)
  clear hor hym hb3 A0 RP HB2 HL2 HB3 HL3
  go_wp2_with fail
  refine PT.out.mono ?_
  rintro e w5 ⟨rfl, hl5, hs5⟩
  have CT := hide (lcount_any hl5)
  have HB5 := hide (HB4.out.trans (hs5.below (fun i hi => ⟨.inl hi, by have := hlw.out; omega⟩)))
  clear hl5 hs5 PT HB4
  go_wp2_with fail
  refine CT.out.mono ?_
  rintro e w6 ⟨rfl, rfl⟩
  clear CT
  go_wp2
  go_ret
  exact ⟨rfl, HB5.out⟩
theorem lawake_any (w : World) : Calls Tryz.prog 5 #[] w fun e w' => e = .returned (.bool true) ∧ Below w.heap.size w w' := lawake_core w [x0] x0_bg x0_len x0_is

end Go.Proofs.YtdldpdllhnpdaaaGreat.Clep
