/- A call of both Disks (the statements' own function Do): Read, Stop, Fail, Crash. -/
import Derived.Test.YtfogfpanfhmijaaGreatYx
namespace Go.Proofs.YtfogfpanfhmijaaGreat.Clep
open Go.RowKit Go.Maps
set_option linter.unusedVariables false

theorem NumV.wider {P P' : Nat → Prop} {w : World} {v : Value} {ks : List Int} (h : NumV P w v ks) (hp : ∀ i, P i → P' i) : NumV P' w v ks := by
  obtain ⟨ao, cap, h1, h2, h3, h4, h5⟩ := h
  refine ⟨ao, cap, h1, h2, h3, h4, fun h0 => ?_⟩
  obtain ⟨b, off, e, hq, hc⟩ := h5 h0
  exact ⟨b, off, e, hp b hq, hc⟩
set_option maxHeartbeats 4000000 in
set_option maxRecDepth 8000 in
theorem do7 {B : Nat} {w : World} {R : Nat} {S : St} {Q : Nat} {T : RSt} (p : Pair B w R S Q T) (r : Rel S T) (nm : NmOk T) (n : Int) (hn : -9223372036854775808 ≤ n ∧ n ≤ 9223372036854775807) (a b : ByteArray) (ka : Option Addr) (kl kc : Nat) :
    Calls Tryz.prog 8 #[.pointer (some ⟨R, 0, none⟩), .pointer (some ⟨Q, 0, none⟩), opV 7 n a b (.slice ka kl kc)] w fun e w' => e = .returned (.bool true) ∧ Done B R Q T w w' := by
  have hbase := p.base
  obtain ⟨F, hd, hB, hN, cl⟩ := p.progW ((Below.refl w.heap.size w).alloc (Nat.le_refl _) (.cells #[.int .i64 7, .int .i64 n, .string a, .string b, .slice ka kl kc] 30))
  have cP := hide (stop_g n hn.2 hd)
  have CL := hide cl
  have HN := hide hN
  have x1 : (w.alloc (.cells #[.int .i64 7, .int .i64 n, .string a, .string b, .slice ka kl kc] 30)).cell? ⟨w.heap.size, 1, none⟩ = some (.int .i64 n) := cell_of (MapKept.heap_alloc w _).1 rfl
  have hbx : w.heap.size < (w.alloc (.cells #[.int .i64 7, .int .i64 n, .string a, .string b, .slice ka kl kc] 30)).heap.size := by simp
  have BX := hide ((Below.refl w.heap.size w).alloc (Nat.le_refl _) (.cells #[.int .i64 7, .int .i64 n, .string a, .string b, .slice ka kl kc] 30))
  have RL := hide (stop_rel r n hn.2)
  unfold opV
  clear p hd cl hN
  go_enter Tryz.func8, Tryz.ntmps8
  go_wp2_with fail
  refine cP.out.mono ?_
  rintro e w1 ⟨rfl, h1, s1⟩
  obtain ⟨p1, b1⟩ := CL.out w1 _ h1 s1
  have y1 : w1.cell? ⟨w.heap.size, 1, none⟩ = some (.int .i64 n) := (World.cell?_of_block (s1.block w.heap.size (HN.out _ (Nat.le_refl _) hbx))).trans x1
  obtain ⟨P, fv, nv, lv, ov, rf, hP, _, cl2⟩ := p1.refd
  have cR := hide (stopT_any Q T P fv nv lv ov n w1 rf hn)
  have CL2 := hide cl2
  have B1 := hide ((BX.out.mono hbase).trans b1)
  clear p1 b1 s1 h1 rf hP cl2
  go_wp2_with fail
  refine cR.out.mono ?_
  rintro e w2 ⟨rfl, r2, g2⟩
  obtain ⟨p2, b2⟩ := CL2.out w2 _ r2 g2
  have HF := hide (show Done B R Q T w w2 from ⟨_, _, RL.out, ⟨nm.now, nm.last, nm.ops⟩, Nat.le_succ _, p2, B1.out.trans b2⟩)
  clear p2 b2 r2 g2
  go_wp2
  go_ret
  exact ⟨rfl, HF.out⟩
set_option maxHeartbeats 4000000 in
set_option maxRecDepth 8000 in
theorem do8 {B : Nat} {w : World} {R : Nat} {S : St} {Q : Nat} {T : RSt} (p : Pair B w R S Q T) (r : Rel S T) (nm : NmOk T) (n : Int) (hn : -9223372036854775808 ≤ n ∧ n ≤ 9223372036854775807) (a b : ByteArray) (ka : Option Addr) (kl kc : Nat) :
    Calls Tryz.prog 8 #[.pointer (some ⟨R, 0, none⟩), .pointer (some ⟨Q, 0, none⟩), opV 8 n a b (.slice ka kl kc)] w fun e w' => e = .returned (.bool true) ∧ Done B R Q T w w' := by
  have hbase := p.base
  obtain ⟨F, hd, hB, hN, cl⟩ := p.progW ((Below.refl w.heap.size w).alloc (Nat.le_refl _) (.cells #[.int .i64 8, .int .i64 n, .string a, .string b, .slice ka kl kc] 30))
  have cP := hide (fail_g n hn.2 hd)
  have CL := hide cl
  have HN := hide hN
  have x1 : (w.alloc (.cells #[.int .i64 8, .int .i64 n, .string a, .string b, .slice ka kl kc] 30)).cell? ⟨w.heap.size, 1, none⟩ = some (.int .i64 n) := cell_of (MapKept.heap_alloc w _).1 rfl
  have hbx : w.heap.size < (w.alloc (.cells #[.int .i64 8, .int .i64 n, .string a, .string b, .slice ka kl kc] 30)).heap.size := by simp
  have BX := hide ((Below.refl w.heap.size w).alloc (Nat.le_refl _) (.cells #[.int .i64 8, .int .i64 n, .string a, .string b, .slice ka kl kc] 30))
  have RL := hide (fail_rel r n hn.2)
  unfold opV
  clear p hd cl hN
  go_enter Tryz.func8, Tryz.ntmps8
  go_wp2_with fail
  refine cP.out.mono ?_
  rintro e w1 ⟨rfl, h1, s1⟩
  obtain ⟨p1, b1⟩ := CL.out w1 _ h1 s1
  have y1 : w1.cell? ⟨w.heap.size, 1, none⟩ = some (.int .i64 n) := (World.cell?_of_block (s1.block w.heap.size (HN.out _ (Nat.le_refl _) hbx))).trans x1
  obtain ⟨P, fv, nv, lv, ov, rf, hP, _, cl2⟩ := p1.refd
  obtain ⟨c5, c6, c7, c8, fr⟩ := rf.row.cells
  have OB := only_set w1 Q 7 (.int .i64 (max n 0))
  have RI := rf.only (T' := { T with fail := max n 0 }) OB (rf.row.set7 _) rfl rfl rfl rfl RL.out.ok
  obtain ⟨p2, b2⟩ := cl2 _ _ ⟨_, _, _, _, RI⟩ (Chg.of_only OB rf.pQ)
  have HF := hide (show Done B R Q T w (w1.setCell ⟨Q, 7, none⟩ (.int .i64 (max n 0))) from ⟨_, _, RL.out, ⟨nm.now, nm.last, nm.ops⟩, Nat.le_succ _, p2, ((BX.out.mono hbase).trans b1).trans b2⟩)
  clear p1 b1 s1 h1 rf hP cl2 p2 b2 RI OB
  go_wp2
  go_ret
  exact ⟨rfl, HF.out⟩
set_option maxHeartbeats 4000000 in
set_option maxRecDepth 8000 in
theorem do9 {B : Nat} {w : World} {R : Nat} {S : St} {Q : Nat} {T : RSt} (p : Pair B w R S Q T) (r : Rel S T) (nm : NmOk T) (n : Int) (a b : ByteArray) (ka : Option Addr) (kc : Nat) (ks : List Int) (hk : NumV (· < B) w (.slice ka ks.length kc) ks) (hkl : ks.length ≤ 1000) :
    Calls Tryz.prog 8 #[.pointer (some ⟨R, 0, none⟩), .pointer (some ⟨Q, 0, none⟩), opV 9 n a b (.slice ka ks.length kc)] w fun e w' => e = .returned (.bool true) ∧ Done B R Q T w w' := by
  have hbase := p.base
  obtain ⟨F, hd, hB, hN, cl⟩ := p.progW ((Below.refl w.heap.size w).alloc (Nat.le_refl _) (.cells #[.int .i64 9, .int .i64 n, .string a, .string b, .slice ka ks.length kc] 30))
  have BX := hide ((Below.refl w.heap.size w).alloc (Nat.le_refl _) (.cells #[.int .i64 9, .int .i64 n, .string a, .string b, .slice ka ks.length kc] 30))
  have hk1 : NumV (· < B) (w.alloc (.cells #[.int .i64 9, .int .i64 n, .string a, .string b, .slice ka ks.length kc] 30)) (.slice ka ks.length kc) ks := hk.keep fun i hi _ => BX.out.block i hi
  have cP := hide (crash_h ka ks.length kc ks rfl hd (by rw [r.calls]; have := r.ok.cal; omega) (hk1.wider hB))
  have CL := hide cl
  have HN := hide hN
  have HK := hide hk1
  have x4 : (w.alloc (.cells #[.int .i64 9, .int .i64 n, .string a, .string b, .slice ka ks.length kc] 30)).cell? ⟨w.heap.size, 4, none⟩ = some (.slice ka ks.length kc) := cell_of (MapKept.heap_alloc w _).1 rfl
  have hbx : w.heap.size < (w.alloc (.cells #[.int .i64 9, .int .i64 n, .string a, .string b, .slice ka ks.length kc] 30)).heap.size := by simp
  have RL := hide (crash_rel r ks)
  unfold opV
  clear p hd cl hN hk hk1
  go_enter Tryz.func8, Tryz.ntmps8
  go_wp2_with fail
  refine cP.out.mono ?_
  rintro e w1 ⟨rfl, h1, s1⟩
  obtain ⟨p1, b1⟩ := CL.out w1 _ h1 s1
  have y4 : w1.cell? ⟨w.heap.size, 4, none⟩ = some (.slice ka ks.length kc) := (World.cell?_of_block (s1.block w.heap.size (HN.out _ (Nat.le_refl _) hbx))).trans x4
  obtain ⟨P, fv, nv, lv, ov, rf, hP, hlow, cl2⟩ := p1.refd
  have hk2 : NumV (· < B) w1 (.slice ka ks.length kc) ks := HK.out.keep fun i _ hi => b1.block i hi
  have cR := hide (crashT_any Q T P fv nv lv ov ka kc ks w1 rf hP (hk2.wider hlow) hkl)
  have CL2 := hide cl2
  have B1 := hide ((BX.out.mono hbase).trans b1)
  clear p1 b1 s1 h1 rf hP cl2 hk2 hlow
  go_wp2_with fail
  refine cR.out.mono ?_
  rintro e w2 ⟨rfl, r2, g2⟩
  obtain ⟨p2, b2⟩ := CL2.out w2 _ r2 g2
  have HF := hide (show Done B R Q T w w2 from ⟨_, _, RL.out, nm_crash nm ks, Nat.le_succ _, p2, B1.out.trans b2⟩)
  clear p2 b2 r2 g2
  go_wp2
  go_ret
  exact ⟨rfl, HF.out⟩

end Go.Proofs.YtfogfpanfhmijaaGreat.Clep

/- A call of both Disks (the statements' own function Do): Read, Append. -/
namespace Go.Proofs.YtfogfpanfhmijaaGreat.Clep
open Go.RowKit Go.Maps
set_option linter.unusedVariables false

set_option maxHeartbeats 4000000 in
set_option maxRecDepth 8000 in
theorem do6 {B : Nat} {w : World} {R : Nat} {S : St} {Q : Nat} {T : RSt} (p : Pair B w R S Q T) (r : Rel S T) (nm : NmOk T) (n : Int) (a b : ByteArray) (ka : Option Addr) (kl kc : Nat) (ha : a.size ≤ 100) :
    Calls Tryz.prog 8 #[.pointer (some ⟨R, 0, none⟩), .pointer (some ⟨Q, 0, none⟩), opV 6 n a b (.slice ka kl kc)] w fun e w' => e = .returned (.bool true) ∧ Done B R Q T w w' := by
  have hbase := p.base
  obtain ⟨F, hd, hB, hN, cl⟩ := p.progW ((Below.refl w.heap.size w).alloc (Nat.le_refl _) (.cells #[.int .i64 6, .int .i64 n, .string a, .string b, .slice ka kl kc] 30))
  have cP := hide (read_h (E := (readS S a).1) (zs := (readS S a).2) a rfl hd (by omega))
  have x2 : (w.alloc (.cells #[.int .i64 6, .int .i64 n, .string a, .string b, .slice ka kl kc] 30)).cell? ⟨w.heap.size, 2, none⟩ = some (.string a) := cell_of (MapKept.heap_alloc w _).1 rfl
  have hbx : w.heap.size < (w.alloc (.cells #[.int .i64 6, .int .i64 n, .string a, .string b, .slice ka kl kc] 30)).heap.size := by simp
  have BX := hide ((Below.refl w.heap.size w).alloc (Nat.le_refl _) (.cells #[.int .i64 6, .int .i64 n, .string a, .string b, .slice ka kl kc] 30))
  obtain ⟨er, rr⟩ := read_rel r a
  have hrg := read_range r a
  have PP := hide p
  have RRR := hide r
  unfold opV
  clear hd cl hN p r
  go_enter Tryz.func8, Tryz.ntmps8
  go_wp2_with fail
  refine cP.out.mono ?_
  rintro e w1 ⟨ao, cap, rfl, hO, _, b1⟩
  have y2 := (b1.cell (p := ⟨w.heap.size, 2, none⟩) hbx).trans x2
  have B1 := hide (BX.out.trans (b1.mono (Nat.le_of_lt hbx)))
  obtain ⟨p1, _⟩ := PP.out.below B1.out
  obtain ⟨P, fv, nv, lv, ov, rf, hP, hlow, cl2⟩ := p1.refd
  have cR := hide (readT_any Q T P fv nv lv ov a w1 rf ha)
  obtain ⟨ao', cap', hv, hcv⟩ := own_conv hO hrg _ rfl
  injection hv with hv1 hv2 hv3
  subst hv1 hv3
  clear hv2
  rw [rr] at hcv
  have HCV := hide hcv
  generalize (readS S a).2.length = zl at *
  generalize (readT T a).1 = X at *
  generalize (readT T a).2 = ee at *
  rw [er]
  clear er rr hrg hO hcv p1 rf hP hlow cl2
  go_wp2_with fail
  refine cR.out.mono ?_
  rintro e w2 ⟨rfl, b2⟩
  have hcn := HCV.out.out w2 b2
  have B2 := hide (B1.out.trans (b2.mono B1.out.size))
  obtain ⟨p2, q2⟩ := PP.out.below B2.out
  have HF := hide (show Done B R Q T w w2 from ⟨_, _, RRR.out, nm, Nat.le_succ _, p2, q2⟩)
  clear b1 b2 p2 q2
  go_wp2
  go_ret
  exact ⟨rfl, HF.out⟩
theorem appended_le (T : RSt) (s t : ByteArray) : (appT T s t).2.calls ≤ T.calls + 1 := by
  unfold appT appB
  split
  · split
    · exact Nat.le_refl _
    · split
      · exact Nat.le_refl _
      · split
        · exact Nat.le_refl _
        · split <;> exact Nat.le_refl _
  · exact Nat.le_succ _
theorem append_r {B : Nat} {w : World} {R : Nat} {S : St} {Q : Nat} {T : RSt} (p : Pair B w R S Q T) (hc : T.calls < 1000) (s t : ByteArray) (hs : s.size ≤ 100) (ht : t.size ≤ 1000) :
    Calls Tryz.prog 20 #[.pointer (some ⟨Q, 0, none⟩), .string s, .string t] w fun e w' => e = .returned (.int .i64 (appT T s t).1) ∧ Pair B w' R S Q (appT T s t).2 ∧ Below B w w' := by
  obtain ⟨P, fv, nv, lv, ov, rf, hP, _, cl⟩ := p.refd
  refine (appT_any Q T P fv nv lv ov s t w rf hs ht hc).mono ?_
  rintro e w' ⟨rfl, hr, hg⟩
  exact ⟨rfl, cl w' _ hr hg⟩
theorem append_p {B : Nat} {w W : World} {R : Nat} {S : St} {Q : Nat} {T : RSt} (p : Pair B w R S Q T) (r : Rel S T) (hc : T.calls < 1000) (s t : ByteArray) (hs : s.size ≤ 100) (ht : t.size ≤ 1000) (hb : Below w.heap.size w W) (ao : Option Addr) (len cap : Nat) (hbs : Bs W ao len cap (bsOf t)) (hnew : ∀ g off, ao = some ⟨g, off, none⟩ → w.heap.size ≤ g ∧ g < W.heap.size) :
    Calls Tryz.prog 12 #[.pointer (some ⟨R, 0, none⟩), .string s, .slice ao len cap] W fun e w' => e = .returned (.int .i64 (appT T s t).1) ∧ Pair B w' R (appendS S s (bsOf t)).2 Q T ∧ Below B W w' ∧ ∀ i, w.heap.size ≤ i → i < W.heap.size → w'.heap[i]? = W.heap[i]? := by
  obtain ⟨F, hd, hB, hN, cl⟩ := p.progW hb
  have hl : len ≤ 70368744177664 := by have := hbs.1; rw [bsOf_len] at this; omega
  refine (append_h s ao len cap (bsOf t) (E := (appendS S s (bsOf t)).1) (S' := (appendS S s (bsOf t)).2) rfl hd (by rw [r.calls]; omega) (by omega) hbs hl (fun g off e => hN g (hnew g off e).1 (hnew g off e).2)).mono ?_
  rintro e w' ⟨rfl, hh, hs'⟩
  obtain ⟨p', b'⟩ := cl w' _ hh hs'
  exact ⟨by rw [(append_rel r hc s t).1], p', b', fun i h1 h2 => hs'.block i (hN i h1 h2)⟩

end Go.Proofs.YtfogfpanfhmijaaGreat.Clep
