/- What upto does when called. Conditions: the Table lies in memory as said. -/
import Derived.Test.YtodhljiboakjnaaGreatQf
import Derived.Test.YtodhljiboakjnaaGreatXb
import Derived.Test.YtodhljiboakjnaaGreatQg
namespace Go.Proofs.YtodhljiboakjnaaGreat.Clep
open Go.RowKit
set_option linter.unusedVariables false

theorem fi_rise {l : List It} (h : Rise l) {i j : Nat} (hij : i < j) (hj : j < nb l) : (fi l i).less (fi l j) = true := by
  have h1 := fi_at (l := l) (j := i) (by omega)
  have h2 := fi_at hj
  obtain ⟨p1, e1⟩ := List.getElem?_eq_some_iff.1 h1
  obtain ⟨p2, e2⟩ := List.getElem?_eq_some_iff.1 h2
  rw [← e1, ← e2]
  exact List.pairwise_iff_getElem.1 h _ _ p1 p2 (by omega)
theorem gq_mono {l : List It} (hr : Rise l) (y : It) {i j : Nat} (hij : i ≤ j) (hj : j < nb l) (h : y.less (fi l i) = true) : y.less (fi l j) = true := by
  rcases Nat.lt_or_ge i j with e | e
  · exact less_trans h (fi_rise hr e hj)
  · rw [show j = i by omega]; exact h
/-- upto's function in memory: the item's box, the marks' box. -/
def Gb (w : World) (P0 P1 : Nat) (a : Option Addr) (c : Nat) (l : List It) (y : It) : Prop := w.cell? ⟨P1, 0, none⟩ = some (.slice a (nb l) c) ∧ Vi w P0 0 y.S y.K y.T y.V y.X ∧ Ms w a (nb l) c (mks l (nb l))
theorem Gb.keep {w w' : World} {P0 P1 : Nat} {a : Option Addr} {c : Nat} {l : List It} {y : It} (h : Gb w P0 P1 a c l y) (hb : Below w.heap.size w w') : Gb w' P0 P1 a c l y :=
  ⟨(hb.cell (p := ⟨P1, 0, none⟩) (World.block_lt_of_cell? w _ h.1)).trans h.1, h.2.1.keep hb, h.2.2.ch (P := fun _ => False) (Ch.of hb) (fun _ _ h => h)⟩
set_option maxRecDepth 100000 in
set_option maxHeartbeats 1000000 in
theorem upto1_any (P0 P1 : Nat) (a : Option Addr) (n c : Nat) (l : List It) (y : It) (i : Nat) (w : World) (h : Gb w P0 P1 a c l y) (hnn : nb l = n) (hi : i < n) (hn : n ≤ 549755813888) :
    Calls Tryz.prog 73 #[.int .i64 i, .pointer (some ⟨P0, 0, none⟩), .pointer (some ⟨P1, 0, none⟩)] w fun e w' => e = .returned (.bool (y.less (fi l i))) ∧ Below w.heap.size w w' := by
  obtain ⟨h0, h1, h2⟩ := h
  rw [hnn] at h0 h2
  obtain ⟨b0, off, ea, hc⟩ := h2.2.2 (by omega)
  subst ea
  have hv := hide (hc i _ (mks_get hi)).2
  have hv9 := hide h1
  have hl0 := World.block_lt_of_cell? w _ h0
  have H0 := hide h0
  obtain ⟨S, K, T, V, X⟩ := y
  generalize fi l i = z at *
  obtain ⟨S0, K0, T0, V0', X0⟩ := z
  simp only at hv hv9
  have b0' : ∀ p : Kp w, p.W.cell? ⟨P1, 0, none⟩ = some (.slice (some ⟨b0, off, none⟩) n c) := fun p => (p.h.cell (p := ⟨P1, 0, none⟩) hl0).trans H0.out
  have d0 : ∀ p : Kp w, p.W.cell? ⟨P0, 0, none⟩ = some (.int .i64 S) := fun p => by simpa using (hv9.out.keep p.h).1
  have d1 : ∀ p : Kp w, p.W.cell? ⟨P0, 1, none⟩ = some (.int .i64 K) := fun p => by simpa using (hv9.out.keep p.h).2.1
  have d2 : ∀ p : Kp w, p.W.cell? ⟨P0, 2, none⟩ = some (.int .u64 T) := fun p => by simpa using (hv9.out.keep p.h).2.2.1
  have d3 : ∀ p : Kp w, p.W.cell? ⟨P0, 3, none⟩ = some (.int .u64 V) := fun p => by simpa using (hv9.out.keep p.h).2.2.2.1
  have d4 : ∀ p : Kp w, p.W.cell? ⟨P0, 4, none⟩ = some (.int .i64 X) := fun p => by simpa using (hv9.out.keep p.h).2.2.2.2
  have f0 : ∀ p : Kp w, p.W.cell? ⟨b0, off + i * 6 + 1, none⟩ = some (.int .i64 S0) := fun p => (hv.out.keep p.h).1
  have f1 : ∀ p : Kp w, p.W.cell? ⟨b0, off + i * 6 + 1 + 1, none⟩ = some (.int .i64 K0) := fun p => (hv.out.keep p.h).2.1
  have f2 : ∀ p : Kp w, p.W.cell? ⟨b0, off + i * 6 + 1 + 2, none⟩ = some (.int .u64 T0) := fun p => (hv.out.keep p.h).2.2.1
  have f3 : ∀ p : Kp w, p.W.cell? ⟨b0, off + i * 6 + 1 + 3, none⟩ = some (.int .u64 V0') := fun p => (hv.out.keep p.h).2.2.2.1
  have f4 : ∀ p : Kp w, p.W.cell? ⟨b0, off + i * 6 + 1 + 4, none⟩ = some (.int .i64 X0) := fun p => (hv.out.keep p.h).2.2.2.2
  obtain ⟨o3, ho3⟩ : ∃ o, lessI S K T S0 K0 T0 = o := ⟨_, rfl⟩
  have c0 : Hid (∀ p : Kp w, Calls Tryz.prog 49 #[.agg #[.int .i64 S, .int .i64 K, .int .u64 T, .int .u64 V, .int .i64 X], .agg #[.int .i64 S0, .int .i64 K0, .int .u64 T0, .int .u64 V0', .int .i64 X0]] p.W fun e w'' => e = .returned (.bool o3) ∧ ∃ q : Kp w, w'' = q.W) := hide fun p => kp_call (by rw [← ho3]; exact less_any S K T V X S0 K0 T0 V0' X0 _)
  have HO3 := hide (show (It.less ⟨S, K, T, V, X⟩ ⟨S0, K0, T0, V0', X0⟩) = o3 from ho3)
  have hlt : (i : Int) < (n : Int) := by omega
  have hne : Nonempty (Kp w) := ⟨⟨_, Below.refl _ _⟩⟩
  clear h0 h1 h2 hc ho3 hnn
  go_enter Tryz.func73, Tryz.ntmps73
  go_wp2_with fail
  refine wp_region_kept (by kernel_rfl) (by kernel_rfl) ?_
  repeat (first
    | go_big_quiet_step (first | (go_at_call 49; exact c0.out _))
    | fail)
  refine wpQuiet_nil ?_
  intro w3 hw'
  have HB3 : Hid (Below w.heap.size w w3) := by
    obtain ⟨⟨w3', hb3⟩, hw''⟩ := hw'
    rw [hw'']; exact hide hb3
  clear hw' hne c0 d0 d1 d2 d3 d4 f0 f1 f2 f3 f4 b0'
  go_wp2
  go_ret
  exact ⟨by rw [HO3.out]; rfl, HB3.out⟩
set_option maxRecDepth 100000 in
set_option maxHeartbeats 1000000 in
theorem qsearch_any (P0 P1 : Nat) (a : Option Addr) (n c : Nat) (l : List It) (y : It) (w : World) (h : Gb w P0 P1 a c l y) (hnn : nb l = n) (hn : n ≤ 549755813888) (hr : Rise l) :
    Calls Tryz.prog 72 #[.int .i64 n, .func (.func 73) #[] #[.pointer (some ⟨P0, 0, none⟩), .pointer (some ⟨P1, 0, none⟩)]] w fun e w' => ∃ k : Nat, e = .returned (.int .i64 k) ∧ k ≤ n ∧ ((∀ i, i < k → y.less (fi l i) = false) ∧ ∀ i, k ≤ i → i < n → y.less (fi l i) = true) ∧ Below w.heap.size w w' := by
  have HM := hide (fun i j (hij : i ≤ j) (hj : j < n) (hh : y.less (fi l i) = true) => gq_mono hr y hij (by omega) hh)
  have HF := hide (fun W (hW : Below w.heap.size w W) i (hi : i < n) => upto1_any P0 P1 a n c l y i W (h.keep hW) hnn hi hn)
  clear h hr hnn
  go_enter Tryz.func72, Tryz.ntmps72
  go_wp2_with fail
  go_loopw [5, 6] (fun s5 s6 wr => ∃ lo hi : Nat, s5 = .int .i64 lo ∧ s6 = .int .i64 hi ∧ lo ≤ hi ∧ hi ≤ n ∧ Hid ((∀ t, t < lo → y.less (fi l t) = false) ∧ (∀ t, hi ≤ t → t < n → y.less (fi l t) = true)) ∧ Hid (Below w.heap.size w wr)) (fun s5 s6 _ => (intOf s6).toNat - (intOf s5).toNat)
  case atStart => exact ⟨0, n, rfl, rfl, by omega, by omega, hide ⟨fun t ht => by omega, fun t h1 h2 => by omega⟩, hide (Below.refl _ _)⟩
  case round =>
    obtain ⟨lo, hi, rfl, rfl, hlh, hin, hI, hB⟩ := hrel
    by_cases hlt : lo < hi
    · have hc := HF.out wr hB.out ((lo + hi) / 2) (by omega)
      rw [show (((lo + hi) / 2 : Nat) : Int) = ((lo : Int) + (hi : Int)) / 2 by omega] at hc
      obtain ⟨o, ho⟩ : ∃ o, y.less (fi l ((lo + hi) / 2)) = o := ⟨_, rfl⟩
      rw [ho] at hc
      have HC := hide hc
      have HO := hide ho
      clear hc ho
      cases o with
      | false =>
        go_wp2_with (first | (go_at_call 73; refine HC.out.mono ?_; rintro e w1 ⟨rfl, hb1⟩))
        go_roundw
        case rel => exact ⟨(lo + hi) / 2 + 1, hi, by go_num, rfl, by omega, hin, hide ⟨fun t ht => (by
            cases hf : y.less (fi l t) with
            | false => rfl
            | true => exact absurd (HM.out t ((lo + hi) / 2) (by omega) (by omega) hf) (by rw [HO.out]; decide)), hI.out.2⟩, hide (bmore hB.out hb1)⟩
        case measure => simp [intOf]; omega
      | true =>
        go_wp2_with (first | (go_at_call 73; refine HC.out.mono ?_; rintro e w1 ⟨rfl, hb1⟩))
        go_roundw
        case rel => exact ⟨lo, (lo + hi) / 2, rfl, by go_num, by omega, by omega, hide ⟨hI.out.1, fun t ht htn => HM.out ((lo + hi) / 2) t ht htn HO.out⟩, hide (bmore hB.out hb1)⟩
        case measure => simp [intOf]; omega
    · obtain rfl : lo = hi := by omega
      go_wp2
      go_ret
      exact ⟨lo, rfl, hin, hI.out, hB.out⟩
/-- What upto answers. -/
def Up (l : List It) (y : It) (k : Nat) : Prop := k ≤ nb l ∧ (∀ i, i < k → y.less (fi l i) = false) ∧ ∀ i, k ≤ i → i < nb l → y.less (fi l i) = true
set_option maxRecDepth 100000 in
set_option maxHeartbeats 1000000 in
theorem upto_any (w : World) (M d : Nat) (B : Nat → Prop) (l : List It) (h : Tb w M B d l) (y : It) :
    Calls Tryz.prog 47 #[.pointer (some ⟨M, 2, none⟩), .agg #[.int .i64 y.S, .int .i64 y.K, .int .u64 y.T, .int .u64 y.V, .int .i64 y.X]] w fun e w' => ∃ k : Nat, e = .returned (.int .i64 k) ∧ Up l y k ∧ Tb w' M (Mo w w' B) 1 l ∧ Ch (fun b => b = M) w w' := by
  have hr := h.ok.rise
  have hM := h.lt M h.base
  have HBl := hide h.lt
  have A1 := (Below.refl _ w).alloc (Nat.le_refl _) (Obj.cells #[.int .i64 y.S, .int .i64 y.K, .int .u64 y.T, .int .u64 y.V, .int .i64 y.X] 25)
  have V1 := vi_new w y.S y.K y.T y.V y.X
  obtain ⟨w1, hw1⟩ : ∃ w1, w1 = w.alloc (Obj.cells #[.int .i64 y.S, .int .i64 y.K, .int .u64 y.T, .int .u64 y.V, .int .i64 y.X] 25) := ⟨_, rfl⟩
  rw [← hw1] at A1 V1
  have hO := hide (open_any w1 M d B l (h.keep A1))
  have AA := hide A1
  have HV := hide V1
  have HR := hide hr
  have HML : Hid (M < w.heap.size) := hide (by omega)
  obtain ⟨N, hN⟩ : ∃ N, nb l = N := ⟨_, rfl⟩
  have HN := hide hN
  have hN2 : N ≤ 100 := by rw [← hN]; exact nb_le h.ok.len
  rw [hN] at hO
  clear h A1 V1 hr hM
  go_enter Tryz.func47, Tryz.ntmps47
  go_wp2_with fail
  rw [← hw1]
  clear hw1
  obtain ⟨P0, hP0⟩ : ∃ P0, P0 = w.heap.size := ⟨_, rfl⟩
  have HP0 := hide hP0
  rw [← hP0] at HV ⊢
  clear hP0
  refine hO.out.mono ?_
  rintro e w2 ⟨am, cm, rfl, hmk, htb, hc2⟩
  have A3 := (Below.refl _ w2).alloc (Nat.le_refl _) (Obj.cells #[Value.slice am N cm] 85)
  have K3 := hpS w2 (Obj.cells #[Value.slice am N cm] 85) w2.heap.size rfl
  obtain ⟨w3, hw3⟩ : ∃ w3, w3 = w2.alloc (Obj.cells #[Value.slice am N cm] 85) := ⟨_, rfl⟩
  rw [← hw3] at A3 K3
  have g0 : w3.cell? ⟨w2.heap.size, 0, none⟩ = some (.slice am N cm) := by simp [World.cell?, K3]
  have hG : Gb w3 P0 w2.heap.size am cm l y := ⟨by rw [HN.out]; exact g0, (HV.out.ch hc2 (by have := HP0.out; have := HML.out; omega)).keep A3, hmk.2.1.ch (P := fun _ => False) (Ch.of A3) (fun _ _ h => h)⟩
  have hS := hide (qsearch_any P0 w2.heap.size am N cm l y w3 hG HN.out (by omega) HR.out)
  have HTB := hide (htb.keep A3)
  have HSW := hide A3.size
  have C3 := hide (((Ch.of (P := fun b => b = M) AA.out).trans hc2).trans (Ch.of A3))
  clear hO hmk htb hc2 A3 K3 hG
  go_wp2_with fail
  rw [← hw3]
  clear hw3
  refine hS.out.mono ?_
  rintro e w4 ⟨k, rfl, hk, hkk, hb4⟩
  have HK := hide hkk
  have B4 := hide hb4
  clear hS hkk hb4 g0
  go_wp2
  go_ret
  refine ⟨k, rfl, ⟨by rw [HN.out]; exact hk, HK.out.1, by rw [HN.out]; exact HK.out.2⟩, (HTB.out.keep B4.out).mo AA.out.size (Nat.le_trans HSW.out B4.out.size) (fun b hb => Nat.lt_of_lt_of_le (HBl.out b hb) (Nat.le_trans C3.out.size B4.out.size)), C3.out.trans (Ch.of B4.out)⟩

end Go.Proofs.YtodhljiboakjnaaGreat.Clep

/- What a table's First, Last, Get, May and Range come to, of rising items cut by twenty. -/
namespace Go.Proofs.YtodhljiboakjnaaGreat.Clep
open Go.RowKit
set_option linter.unusedVariables false
set_option maxRecDepth 10000

theorem nb_zero {l : List It} : nb l = 0 ↔ l = [] := by
  constructor
  · intro h
    have := mt (nb_lt (l := l) (j := 0)).2 (by omega)
    exact List.eq_nil_of_length_eq_zero (by omega)
  · intro h; rw [h]; rfl
theorem fi_head {l : List It} (h : 0 < nb l) : l.head? = some (fi l 0) := by
  have := fi_at h
  rw [Nat.zero_mul] at this
  rw [← this]
  cases l <;> rfl
theorem ck_get (l : List It) (j i : Nat) (h : i < 20) : (ck 20 l j)[i]? = l[j * 20 + i]? := by
  unfold ck
  rw [List.getElem?_take, if_pos h, List.getElem?_drop]
theorem ck_last {l : List It} (h : 0 < nb l) : ∃ n, (ck 20 l (nb l - 1)).length = n + 1 ∧ (ck 20 l (nb l - 1))[n]? = l.getLast? := by
  have h1 := (nb_lt (l := l) (j := nb l - 1)).1 (by omega)
  have h2 := mt (nb_lt (l := l) (j := nb l)).2 (by omega)
  have h3 : (nb l - 1) * 20 + 20 = nb l * 20 := by omega
  have hl := ck_len l 20 (nb l - 1)
  refine ⟨l.length - (nb l - 1) * 20 - 1, by omega, ?_⟩
  rw [ck_get _ _ _ (by omega), List.getLast?_eq_getElem?]
  congr 1; omega
theorem ck_split {l : List It} (j : Nat) : l = l.take (j * 20) ++ (ck 20 l j ++ l.drop ((j + 1) * 20)) := by
  rw [← List.append_assoc, take_ck, List.take_append_drop]
/-- What stands ahead of the block j is less than its first item. -/
theorem ahead {l : List It} (hr : Rise l) {j : Nat} (hj : j < nb l) {y : It} (hy : y ∈ l.take (j * 20)) : y.less (fi l j) = true := by
  obtain ⟨i, hi, rfl⟩ := List.getElem_of_mem hy
  have hlt := nb_lt.1 hj
  have h2 := fi_at hj
  obtain ⟨p2, e2⟩ := List.getElem?_eq_some_iff.1 h2
  rw [List.length_take] at hi
  rw [List.getElem_take, ← e2]
  exact List.pairwise_iff_getElem.1 hr _ _ (by omega) p2 (by omega)
/-- What stands from the block j on is not less than its first item. -/
theorem behind {l : List It} (hr : Rise l) {j : Nat} (hj : j < nb l) {y : It} (hy : y ∈ l.drop (j * 20)) : y = fi l j ∨ (fi l j).less y = true := by
  obtain ⟨i, hi, rfl⟩ := List.getElem_of_mem hy
  have h2 := fi_at hj
  obtain ⟨p2, e2⟩ := List.getElem?_eq_some_iff.1 h2
  rw [List.length_drop] at hi
  rw [List.getElem_drop, ← e2]
  rcases Nat.eq_zero_or_pos i with e | e
  · subst e; exact .inl (by simp)
  · exact .inr (List.pairwise_iff_getElem.1 hr _ _ p2 (by omega) (by omega))
theorem drop_nil {l : List It} {j : Nat} (hj : nb l ≤ j) : l.drop (j * 20) = [] := by
  have := mt (nb_lt (l := l) (j := j)).2 (by omega)
  exact List.drop_of_length_le (by omega)
theorem find_none {l : List It} {x : It} (h : ∀ y ∈ l, y.same x = false) : l.find? (fun y => y.same x) = none := fd_none_of h
theorem fd_zero {l : List It} (hr : Rise l) {x : It} (h : Up l x 0) : fd l x = none := by
  refine fd_none_of fun y hy => ?_
  rcases Nat.eq_zero_or_pos (nb l) with e | e
  · rw [nb_zero.1 e] at hy; simp at hy
  · have h0 := h.2.2 0 (Nat.le_refl _) e
    rcases behind hr e (y := y) (by simpa using hy) with q | q
    · rw [q]; rw [less_iff] at h0; rw [nsame_iff]; omega
    · have := less_trans h0 q; rw [less_iff] at this; rw [nsame_iff]; omega
theorem fd_in {l : List It} (hr : Rise l) {x : It} {k : Nat} (h : Up l x (k + 1)) : fd l x = fd (ck 20 l k) x := by
  have hk : k < nb l := by have := h.1; omega
  have hx := h.2.1 k (by omega)
  unfold fd
  conv => lhs; rw [ck_split (l := l) k]
  rw [List.find?_append, List.find?_append, find_none (l := l.take (k * 20)) (fun y hy => ?_), find_none (l := l.drop ((k + 1) * 20)) (fun y hy => ?_)]
  · simp
  · rcases Nat.lt_or_ge (k + 1) (nb l) with e | e
    · have h0 := h.2.2 (k + 1) (Nat.le_refl _) e
      rcases behind hr e hy with q | q
      · rw [q]; rw [less_iff] at h0; rw [nsame_iff]; omega
      · have := less_trans h0 q; rw [less_iff] at this; rw [nsame_iff]; omega
    · rw [drop_nil e] at hy; simp at hy
  · have ha := ahead hr hk hy
    have hx' : ¬ (x.less (fi l k) = true) := by rw [hx]; decide
    rw [less_iff] at ha hx'
    rw [nsame_iff]; omega
theorem fold_addk (sz : Nat) : ∀ (l : List It) (N p : Nat), N.testBit p = true → (l.foldl (fun N x => addk (fnv (kb x.S x.K x.T)) sz 7 N) N).testBit p = true
  | [], N, p, h => h
  | x :: l, N, p, h => fold_addk sz l _ p (addk_more _ _ _ _ p h)
theorem fold_has (sz : Nat) : ∀ (l : List It) (N : Nat) (y : It), y ∈ l → hask (fnv (kb y.S y.K y.T)) sz 7 (l.foldl (fun N x => addk (fnv (kb x.S x.K x.T)) sz 7 N) N) = true
  | [], N, y, h => by simp at h
  | x :: l, N, y, h => by
    rcases List.mem_cons.1 h with e | e
    · subst e
      exact hask_mono (fold_addk sz l _) (hask_add _ _ _ _)
    · exact fold_has sz l _ y e
theorem may_mem {l : List It} {y : It} (h : y ∈ l) : mayT l y = true := fold_has _ l 0 y h
theorem may_same {l : List It} {x y : It} (h : y ∈ l) (hs : y.same x = true) : mayT l x = true := by
  have := may_mem h
  obtain ⟨h1, h2, h3⟩ := same_iff.1 hs
  unfold mayT at *
  rw [h1, h2, h3] at this; exact this
theorem fd_mem {l : List It} {x y : It} (h : fd l x = some y) : y ∈ l ∧ y.same x = true := ⟨List.mem_of_find?_eq_some h, by have := List.find?_some h; exact this⟩
theorem may_false {l : List It} {x : It} (h : mayT l x = false) : fd l x = none := by
  cases e : fd l x with
  | none => rfl
  | some y => rw [may_same (fd_mem e).1 (fd_mem e).2] at h; cases h
/-- What Range answers. -/
def rgB (f t x : It) : Bool := !x.less f && !t.less x
def rg (f t : It) (l : List It) : List It := l.filter (rgB f t)
theorem rg_ahead {l : List It} (hr : Rise l) {f t : It} {k : Nat} (h : Up l f k) : rg f t (l.take ((k - 1) * 20)) = [] := by
  cases k with
  | zero => simp [rg]
  | succ k =>
    have hk : k < nb l := by have := h.1; omega
    have hx := h.2.1 k (by omega)
    unfold rg
    rw [Nat.add_sub_cancel, List.filter_eq_nil_iff]
    intro y hy
    have ha := ahead hr hk hy
    have hx' : ¬ (f.less (fi l k) = true) := by rw [hx]; decide
    rw [less_iff] at ha hx'
    have : y.less f = true := by rw [less_iff]; omega
    simp [rgB, this]
theorem rg_stop {l : List It} (hr : Rise l) {f t : It} {j : Nat} (hj : j < nb l) (h : t.less (fi l j) = true) : rg f t (l.take (j * 20)) = rg f t l := by
  conv => rhs; rw [← List.take_append_drop (j * 20) l]
  unfold rg
  rw [List.filter_append, show (l.drop (j * 20)).filter (rgB f t) = [] from ?_, List.append_nil]
  rw [List.filter_eq_nil_iff]
  intro y hy
  have : t.less y = true := by
    rcases behind hr hj hy with q | q
    · rw [q]; exact h
    · exact less_trans h q
  simp [rgB, this]
theorem rg_step (f t : It) (l : List It) (k : Nat) (x : It) (h : l[k]? = some x) : rg f t (l.take (k + 1)) = rg f t (l.take k) ++ (if rgB f t x then [x] else []) := by
  unfold rg
  rw [List.take_add_one, h, List.filter_append]
  cases hx : rgB f t x <;> simp [hx]
theorem rg_app (f t : It) (a b : List It) : rg f t (a ++ b) = rg f t a ++ rg f t b := List.filter_append ..
theorem rg_len (f t : It) (l : List It) : (rg f t l).length ≤ l.length := List.length_filter_le _ _

end Go.Proofs.YtodhljiboakjnaaGreat.Clep

/- What First, Last and All do when called. Conditions: the Table lies in memory as said. -/
namespace Go.Proofs.YtodhljiboakjnaaGreat.Clep
open Go.RowKit
set_option linter.unusedVariables false

theorem first_results {w : World} {R : Nat} {S K T V X : Int} {b : Bool} (h : Vx w R S K T V X) (ts : Array Value) (h2 : ts.getD 2 undef = .pointer (some ⟨R, 0, none⟩)) (h3 : ts.getD 3 undef = .bool b) :
    (results Tryz.f18 ts).run Tryz.prog w = .ok (.tuple #[.agg #[.int .i64 S, .int .i64 K, .int .u64 T, .int .u64 V, .int .i64 X], .bool b]) w := by
  obtain ⟨⟨h0, h1, h4, h5, h6⟩, -⟩ := h
  simp only [Nat.zero_add] at h1 h4 h5 h6
  rw [Array.getD_eq_getD_getElem?] at h2 h3
  simp [results, Tryz.results18, go_sem, h0, h1, h2, h3, h4, h5, h6]
theorem last_results {w : World} {R : Nat} {S K T V X : Int} {b : Bool} (h : Vx w R S K T V X) (ts : Array Value) (h2 : ts.getD 2 undef = .pointer (some ⟨R, 0, none⟩)) (h3 : ts.getD 3 undef = .bool b) :
    (results Tryz.f19 ts).run Tryz.prog w = .ok (.tuple #[.agg #[.int .i64 S, .int .i64 K, .int .u64 T, .int .u64 V, .int .i64 X], .bool b]) w := by
  obtain ⟨⟨h0, h1, h4, h5, h6⟩, -⟩ := h
  simp only [Nat.zero_add] at h1 h4 h5 h6
  rw [Array.getD_eq_getD_getElem?] at h2 h3
  simp [results, Tryz.results19, go_sem, h0, h1, h2, h3, h4, h5, h6]
theorem vx_ch {P : Nat → Prop} {w w' : World} {R : Nat} {S K T V X : Int} (h : Vx w R S K T V X) (hc : Ch P w w') (hn : ¬ P R) : Vx w' R S K T V X := by
  refine ⟨h.1.ch hc hn, ?_⟩
  have e := hc.block R h.1.lt hn
  obtain ⟨h0, h1, h2, h3, h4⟩ := h.2
  exact ⟨(World.frozen?_of_block (a := ⟨R, 0, none⟩) e).trans h0, (World.frozen?_of_block (a := ⟨R, 0 + 1, none⟩) e).trans h1, (World.frozen?_of_block (a := ⟨R, 0 + 2, none⟩) e).trans h2, (World.frozen?_of_block (a := ⟨R, 0 + 3, none⟩) e).trans h3, (World.frozen?_of_block (a := ⟨R, 0 + 4, none⟩) e).trans h4⟩
/-- An answer of an item and whether there is one; the Table behind it. -/
def AnsT (o : Option It) (w : World) (M : Nat) (B : Nat → Prop) (l : List It) (e : Ending) (w' : World) : Prop := e = .returned (.tuple #[.agg (cv (o.getD oz)).toArray, .bool o.isSome]) ∧ Tb w' M (Mo w w' B) 1 l ∧ Ch (fun b => b = M) w w'
/-- Behind the result is written. -/
theorem ansT_put {w w1 w2 : World} {M R d : Nat} {B : Nat → Prop} {l : List It} (hA : Below w.heap.size w w1) (hc : Ch (fun b => b = M) w1 w2) (ht : Tb w2 M (Mo w1 w2 B) d l) (hR : w.heap.size ≤ R) (hR2 : R < w1.heap.size) (hB : ∀ b, B b → b < w.heap.size) (S K T V X : Int) : Tb (putI w2 R S K T V X) M (Mo w (putI w2 R S K T V X) B) d l ∧ Ch (fun b => b = M) w (putI w2 R S K T V X) := by
  have hg := gb_putI w2 R S K T V X
  have c2 : Ch (fun b => b = R) w2 (putI w2 R S K T V X) := ⟨hg.os, hg.tape, hg.output, hg.size, fun k hk hp => hg.block k hk (fun e => hp (by injection e))⟩
  have c1 := (Ch.of (P := fun b => b = M) hA).trans hc
  refine ⟨(ht.ch c2 (fun b hb e => ?_)).mo hA.size c2.size (fun b hb => Nat.lt_of_lt_of_le (hB b hb) (Nat.le_trans c1.size c2.size)), ?_⟩
  · rcases hb with hb | hb
    · have := hB b hb; omega
    · omega
  refine ⟨c2.os.trans c1.os, c2.tape.trans c1.tape, c2.output.trans c1.output, Nat.le_trans c1.size c2.size, fun k hk hp => ?_⟩
  rw [c2.block k (Nat.lt_of_lt_of_le hk c1.size) (by omega)]
  exact c1.block k hk hp
set_option maxRecDepth 100000 in
set_option maxHeartbeats 1000000 in
theorem tfirst_any (w : World) (M d : Nat) (B : Nat → Prop) (l : List It) (h : Tb w M B d l) :
    Calls Tryz.prog 18 #[.pointer (some ⟨M, 0, none⟩)] w (AnsT l.head? w M B l) := by
  have A1 := (Below.refl _ w).alloc (Nat.le_refl _) (Obj.cells #[.int .i64 0, .int .i64 0, .int .u64 0, .int .u64 0, .int .i64 0] 25)
  have V1 := vx_new w 0 0 0 0 0
  obtain ⟨w1, hw1⟩ : ∃ w1, w1 = w.alloc (Obj.cells #[.int .i64 0, .int .i64 0, .int .u64 0, .int .u64 0, .int .i64 0] 25) := ⟨_, rfl⟩
  rw [← hw1] at A1 V1
  have AA := hide A1
  have HV := hide V1
  have HB := hide h.lt
  have HM : Hid (M < w.heap.size) := hide (h.lt M h.base)
  have hO := hide (open_any w1 M d B l (h.keep A1))
  obtain ⟨N, hN⟩ : ∃ N, nb l = N := ⟨_, rfl⟩
  have HN := hide hN
  rw [hN] at hO
  clear h A1 V1 hN
  go_enter Tryz.func18, Tryz.ntmps18
  go_wp2_with fail
  rw [← hw1]
  clear hw1
  obtain ⟨R, hR⟩ : ∃ R, R = w.heap.size := ⟨_, rfl⟩
  have HR := hide hR
  rw [← hR] at HV ⊢
  clear hR
  refine hO.out.mono ?_
  rintro e w2 ⟨am, cm, rfl, hmk, htb, hc2⟩
  have VX := hide (vx_ch HV.out hc2 (by have := HR.out; have := HM.out; omega))
  have gx := VX.out
  unfold Vx Vi Vf at gx
  simp only [Nat.zero_add] at gx
  obtain ⟨⟨y0, y1, y2, y3, y4⟩, z0, z1, z2, z3, z4⟩ := gx
  have HT := hide (fun S K T V X => ansT_put AA.out hc2 htb (by rw [HR.out]; exact Nat.le_refl _) HV.out.lt HB.out S K T V X)
  have HMK := hide hmk
  clear hO hc2 htb hmk
  by_cases h0 : N = 0
  · subst h0
    have hl : Hid (l.head? = none) := hide (by rw [nb_zero.1 HN.out]; rfl)
    go_wp2_with fail
    refine bodyPost_ret (first_results (VX.out.put 0 0 0 0 0) _ rfl rfl) rfl ⟨by rw [hl.out]; rfl, HT.out 0 0 0 0 0⟩
  · have h1 : 0 < N := by omega
    have hq : ((N : Int) == 0) = false := by simp; omega
    obtain ⟨b, off, ea, hcell⟩ := HMK.out.2.1.2.2 (by rw [HN.out]; exact h1)
    subst ea
    have hl := hide (fi_head (l := l) (by rw [HN.out]; exact h1))
    have hv := (hcell 0 _ (mks_get (by rw [HN.out]; exact h1))).2
    simp only [Nat.zero_mul, Nat.add_zero] at hv
    have hi : (0 : Int) < (N : Int) := by omega
    generalize fi l 0 = x at *
    obtain ⟨S, K, T, V, X⟩ := x
    simp only at hv
    obtain ⟨v0, v1, v2, v3, v4⟩ := hv
    clear hcell h0
    go_wp2_with fail
    refine bodyPost_ret (first_results (VX.out.put S K T V X) _ rfl rfl) rfl ⟨by rw [hl.out]; rfl, HT.out S K T V X⟩
set_option maxRecDepth 100000 in
set_option maxHeartbeats 1000000 in
theorem tlast_any (w : World) (M d : Nat) (B : Nat → Prop) (l : List It) (h : Tb w M B d l) :
    Calls Tryz.prog 19 #[.pointer (some ⟨M, 0, none⟩)] w (AnsT l.getLast? w M B l) := by
  have A1 := (Below.refl _ w).alloc (Nat.le_refl _) (Obj.cells #[.int .i64 0, .int .i64 0, .int .u64 0, .int .u64 0, .int .i64 0] 25)
  have V1 := vx_new w 0 0 0 0 0
  obtain ⟨w1, hw1⟩ : ∃ w1, w1 = w.alloc (Obj.cells #[.int .i64 0, .int .i64 0, .int .u64 0, .int .u64 0, .int .i64 0] 25) := ⟨_, rfl⟩
  rw [← hw1] at A1 V1
  have AA := hide A1
  have HV := hide V1
  have HB := hide h.lt
  have HOK := hide h.ok
  have HM : Hid (M < w.heap.size) := hide (h.lt M h.base)
  have hO := hide (open_any w1 M d B l (h.keep A1))
  obtain ⟨N, hN⟩ : ∃ N, nb l = N := ⟨_, rfl⟩
  have HN := hide hN
  rw [hN] at hO
  have hN100 : N ≤ 100 := by rw [← hN]; exact nb_le h.ok.len
  clear h A1 V1 hN
  go_enter Tryz.func19, Tryz.ntmps19
  go_wp2_with fail
  rw [← hw1]
  clear hw1
  obtain ⟨R, hR⟩ : ∃ R, R = w.heap.size := ⟨_, rfl⟩
  have HR := hide hR
  rw [← hR] at HV ⊢
  clear hR
  refine hO.out.mono ?_
  rintro e w2 ⟨am, cm, rfl, hmk, htb, hc2⟩
  by_cases h0 : N = 0
  · subst h0
    have VX := hide (vx_ch HV.out hc2 (by have := HR.out; have := HM.out; omega))
    have gx := VX.out
    unfold Vx Vi Vf at gx
    simp only [Nat.zero_add] at gx
    obtain ⟨⟨y0, y1, y2, y3, y4⟩, z0, z1, z2, z3, z4⟩ := gx
    have HT := hide (fun S K T V X => ansT_put AA.out hc2 htb (by rw [HR.out]; exact Nat.le_refl _) HV.out.lt HB.out S K T V X)
    clear hO hc2 htb hmk
    have hl : Hid (l.getLast? = none) := hide (by rw [nb_zero.1 HN.out]; rfl)
    go_wp2_with fail
    refine bodyPost_ret (last_results (VX.out.put 0 0 0 0 0) _ rfl rfl) rfl ⟨by rw [hl.out]; rfl, HT.out 0 0 0 0 0⟩
  · have h1 : 0 < N := by omega
    have hq : ((N : Int) == 0) = false := by simp; omega
    obtain ⟨b, off, ea, hcell⟩ := hmk.2.1.2.2 (by rw [HN.out]; exact h1)
    subst ea
    have hv := hcell (N - 1) _ (mks_get (by rw [HN.out]; omega))
    obtain ⟨v5, hv⟩ := hv
    have hrow := hide (fun S K T V X => trow_any w2 M 1 _ l htb (N - 1) (by rw [HN.out]; omega) S K T V X)
    have hla := ck_last (l := l) (by rw [HN.out]; exact h1)
    rw [HN.out] at hla
    obtain ⟨n, hn1, hn2⟩ := hla
    have hwf := hide (HOK.out.wfs (N - 1))
    obtain ⟨p, hp⟩ : ∃ p, (bls l (N - 1)).length = p := ⟨_, rfl⟩
    rw [hp] at v5 hrow
    generalize fi l (N - 1) = x at *
    obtain ⟨S, K, T, V, X⟩ := x
    simp only at hv v5
    obtain ⟨v0, v1, v2, v3, v4⟩ := hv
    have hi1 : (0 : Int) ≤ (N : Int) - 1 := by omega
    have hi2 : (N : Int) - 1 < (N : Int) := by omega
    have hi3 : ((N : Int) - 1).toNat = N - 1 := by omega
    have HTB := hide htb
    have C2 := hide hc2
    rw [hn1] at hrow
    have hn20 : n ≤ 20 := by have := ck_len l 20 (N - 1); omega
    clear hcell h0 hmk hO htb hc2 hp
    go_wp2_with fail
    refine (hrow.out _ _ _ _ _).mono ?_
    rintro e w3 ⟨a3, c3, rfl, hI3, hc3, hb3, -⟩
    obtain ⟨b3, o3, e3, hcell⟩ := hI3.2.2.2 (by omega)
    subst e3
    obtain ⟨y, hy⟩ : ∃ y, (ck 20 l (N - 1))[n]? = some y := ⟨_, List.getElem?_eq_getElem (by omega)⟩
    have hv := hcell n y hy
    have hl : Hid (l.getLast? = some y) := hide (by rw [← hn2]; exact hy)
    have C3 := C2.out.trans (Ch.of hb3)
    have T3 : Tb w3 M (Mo w1 w3 B) 1 l := (HTB.out.keep hb3).wide (fun b hb => hb.elim .inl (fun e => .inr ⟨e.1, Nat.lt_of_lt_of_le e.2 hb3.size⟩)) (fun b hb => hb.elim (fun e => Nat.lt_of_lt_of_le (HB.out b e) (Nat.le_trans AA.out.size C3.size)) (fun e => e.2))
    have VX := hide (vx_ch HV.out C3 (by have := HR.out; have := HM.out; omega))
    have gx := VX.out
    unfold Vx Vi Vf at gx
    simp only [Nat.zero_add] at gx
    obtain ⟨⟨y0, y1, y2, y3, y4⟩, z0, z1, z2, z3, z4⟩ := gx
    have HT := hide (fun S K T V X => ansT_put AA.out C3 T3 (by rw [HR.out]; exact Nat.le_refl _) HV.out.lt HB.out S K T V X)
    obtain ⟨S', K', T', V', X'⟩ := y
    unfold Vt Vi at hv
    simp only at hv
    obtain ⟨t0, t1, t2, t3, t4⟩ := hv
    clear hrow hI3 hb3 hcell hy C3 T3 v0 v1 v2 v3 v4 v5 hn1 hn2
    go_wp2_with fail
    refine bodyPost_ret (last_results (VX.out.put S' K' T' V' X') _ rfl rfl) rfl ⟨by rw [hl.out]; rfl, HT.out S' K' T' V' X'⟩

end Go.Proofs.YtodhljiboakjnaaGreat.Clep
