/- What Get does when called. Conditions: the Table lies in memory as said. -/
import Derived.Test.YtodhljiboakjnaaGreatQh
import Derived.Deep.RegionWith
import Derived.Deep.RegionHeldLaw
namespace Go.Proofs.YtodhljiboakjnaaGreat.Clep
open Go.RowKit
set_option linter.unusedVariables false

theorem get_results {w : World} {R : Nat} {S K T V X : Int} {b : Bool} (h : Vx w R S K T V X) (ts : Array Value) (h2 : ts.getD 4 undef = .pointer (some ⟨R, 0, none⟩)) (h3 : ts.getD 5 undef = .bool b) :
    (results Tryz.f23 ts).run Tryz.prog w = .ok (.tuple #[.agg #[.int .i64 S, .int .i64 K, .int .u64 T, .int .u64 V, .int .i64 X], .bool b]) w := by
  obtain ⟨⟨h0, h1, h4, h5, h6⟩, -⟩ := h
  simp only [Nat.zero_add] at h1 h4 h5 h6
  rw [Array.getD_eq_getD_getElem?] at h2 h3
  simp [results, Tryz.results23, go_sem, h0, h1, h2, h3, h4, h5, h6]
/-- An answer of an item and whether there is one; the Table behind it, open or not. -/
def AnsG (o : Option It) (w : World) (M : Nat) (B : Nat → Prop) (l : List It) (e : Ending) (w' : World) : Prop := e = .returned (.tuple #[.agg (cv (o.getD oz)).toArray, .bool o.isSome]) ∧ (∃ d, Tb w' M (Mo w w' B) d l) ∧ Ch (fun b => b = M) w w'
theorem Tb.more {w1 w2 w3 : World} {M d : Nat} {B : Nat → Prop} {l : List It} (h : Tb w2 M (Mo w1 w2 B) d l) (hb : Below w2.heap.size w2 w3) (hB : ∀ b, B b → b < w2.heap.size) : Tb w3 M (Mo w1 w3 B) d l :=
  (h.keep hb).wide (fun b hb' => hb'.elim .inl (fun e => .inr ⟨e.1, Nat.lt_of_lt_of_le e.2 hb.size⟩)) (fun b hb' => hb'.elim (fun e => Nat.lt_of_lt_of_le (hB b e) hb.size) (fun e => e.2))
set_option maxRecDepth 100000 in
set_option maxHeartbeats 4000000 in
theorem tget_any (w : World) (M d : Nat) (B : Nat → Prop) (l : List It) (h : Tb w M B d l) (x : It) (hx : x.wf) :
    Calls Tryz.prog 23 #[.pointer (some ⟨M, 0, none⟩), .agg #[.int .i64 x.S, .int .i64 x.K, .int .u64 x.T, .int .u64 x.V, .int .i64 x.X]] w (AnsG (fd l x) w M B l) := by
  obtain ⟨S, K, T, V, X⟩ := x
  simp only
  have A0 := (Below.refl _ w).alloc (Nat.le_refl _) (Obj.cells #[Value.int IntKind.i64 S, Value.int IntKind.i64 K, Value.int IntKind.u64 T, Value.int IntKind.u64 V, Value.int IntKind.i64 X] 25)
  have X0 := vi_new w S K T V X
  obtain ⟨w0, hw0⟩ : ∃ w0, w0 = w.alloc (Obj.cells #[Value.int IntKind.i64 S, Value.int IntKind.i64 K, Value.int IntKind.u64 T, Value.int IntKind.u64 V, Value.int IntKind.i64 X] 25) := ⟨_, rfl⟩
  have hs0 : w0.heap.size = w.heap.size + 1 := by rw [hw0]; simp
  rw [← hw0] at A0 X0
  have A1 := (Below.refl _ w0).alloc (Nat.le_refl _) (Obj.cells #[.int .i64 0, .int .i64 0, .int .u64 0, .int .u64 0, .int .i64 0] 25)
  have V1 := vx_new w0 0 0 0 0 0
  obtain ⟨w1, hw1⟩ : ∃ w1, w1 = w0.alloc (Obj.cells #[.int .i64 0, .int .i64 0, .int .u64 0, .int .u64 0, .int .i64 0] 25) := ⟨_, rfl⟩
  have hs1 : w1.heap.size = w.heap.size + 1 + 1 := by rw [hw1]; simp [hs0]
  rw [← hw1] at A1 V1
  rw [hs0] at V1
  have AA := hide (bmore A0 A1)
  have HV := hide V1
  have HX := hide (X0.keep A1)
  have HB := hide h.lt
  have HOK := hide h.ok
  have HS1 := hide hs1
  have HM : Hid (M < w.heap.size) := hide (h.lt M h.base)
  have HT1 := hide (h.keep (bmore A0 A1))
  have hMy := hide (tmay_any w1 M d B l (h.keep (bmore A0 A1)) ⟨S, K, T, V, X⟩ hx)
  obtain ⟨o, ho⟩ : ∃ o, mayT l ⟨S, K, T, V, X⟩ = o := ⟨_, rfl⟩
  rw [ho] at hMy
  have HO := hide ho
  have g := HX.out
  unfold Vi at g
  simp only [Nat.zero_add] at g
  obtain ⟨g0, g1, g2, g3, g4⟩ := g
  clear h A0 A1 V1 X0 hs0 hs1 ho
  go_enter Tryz.func23, Tryz.ntmps23
  go_wp2_with fail
  rw [← hw0, ← hw1]
  clear hw0 hw1
  obtain ⟨R, hR⟩ : ∃ R, R = w.heap.size := ⟨_, rfl⟩
  have HR := hide hR
  rw [← hR] at HV HX g0 g1 g2 g3 g4 ⊢
  clear hR
  go_wp2_with fail
  refine hMy.out.mono ?_
  rintro e w2 ⟨rfl, hb2⟩
  have HT2 := hide ((HT1.out.keep hb2).wide (B' := Mo w1 w2 B) (fun b hb => .inl hb) (fun b hb => hb.elim (fun e => Nat.lt_of_lt_of_le (HB.out b e) (Nat.le_trans AA.out.size hb2.size)) (fun e => e.2)))
  have HV2 := hide (HV.out.keep hb2)
  have B2 := hide hb2
  have HRW : Hid (w.heap.size ≤ R + 1 ∧ R + 1 < w1.heap.size) := hide (by have := HR.out; have := HS1.out; omega)
  clear hMy hb2 g0 g1 g2 g3 g4
  cases o with
  | false =>
    have gx := HV2.out
    unfold Vx Vi Vf at gx
    simp only [Nat.zero_add] at gx
    obtain ⟨⟨y0, y1, y2, y3, y4⟩, z0, z1, z2, z3, z4⟩ := gx
    have hr := hide (may_false HO.out)
    go_wp2_with fail
    refine bodyPost_ret (get_results (HV2.out.put 0 0 0 0 0) _ rfl rfl) rfl ⟨by rw [hr.out]; rfl, ?_⟩
    have := ansT_put AA.out (Ch.of B2.out) HT2.out HRW.out.1 HRW.out.2 HB.out 0 0 0 0 0
    exact ⟨⟨_, this.1⟩, this.2⟩
  | true =>
    have HX2 := hide (HX.out.keep B2.out)
    have hU := hide (fun W (hW : Below w2.heap.size w2 W) => upto_any W M d _ l (HT2.out.keep hW) ⟨S, K, T, V, X⟩)
    have g := HX2.out
    unfold Vi at g
    simp only [Nat.zero_add] at g
    obtain ⟨g0, g1, g2, g3, g4⟩ := g
    go_wp2_with fail
    go_region_with (go_at_call 47; refine (hU.out w2.drew ((Below.refl _ _).drew)).mono ?_; rintro e w3 ⟨k, rfl, hk, ht3, hc3⟩)
    have hsz2 : Hid (w1.heap.size ≤ w2.heap.size) := hide B2.out.size
    have T3 : Hid (Tb w3 M (Mo w1 w3 B) 1 l) := hide (ht3.wide (fun b hb => by
      have hd : w2.drew.heap.size = w2.heap.size := rfl
      have := hsz2.out
      rcases hb with (hb | hb) | hb
      · exact .inl hb
      · have := hc3.size; exact .inr ⟨hb.1, by omega⟩
      · exact .inr ⟨by omega, hb.2⟩) (fun b hb => hb.elim (fun e => Nat.lt_of_lt_of_le (HB.out b e) (Nat.le_trans AA.out.size (Nat.le_trans hsz2.out hc3.size))) (fun e => e.2)))
    have C3 : Hid (Ch (fun b => b = M) w1 w3) := hide ((Ch.of B2.out).trans ((Ch.of (Below.refl _ _).drew).trans hc3))
    have VX := hide (vx_ch HV.out C3.out (by have := HR.out; have := HM.out; omega))
    have HX3 := hide (HX.out.ch C3.out (by have := HR.out; have := HM.out; omega))
    have HK := hide hk
    clear ht3 hc3 hU hk g0 g1 g2 g3 g4 HX2 HT2 HV2
    have gx := VX.out
    unfold Vx Vi Vf at gx
    simp only [Nat.zero_add] at gx
    obtain ⟨⟨y0, y1, y2, y3, y4⟩, z0, z1, z2, z3, z4⟩ := gx
    cases k with
    | zero =>
      have hr := hide (fd_zero HOK.out.rise HK.out)
      go_wp2_with fail
      refine bodyPost_ret (get_results (VX.out.put 0 0 0 0 0) _ rfl rfl) rfl ⟨by rw [hr.out]; rfl, ?_⟩
      have := ansT_put AA.out C3.out T3.out HRW.out.1 HRW.out.2 HB.out 0 0 0 0 0
      exact ⟨⟨_, this.1⟩, this.2⟩
    | succ k =>
      have hr := hide (fd_in HOK.out.rise HK.out)
      have hkn : k < nb l := by have := HK.out.1; omega
      obtain ⟨N, hN⟩ : ∃ N, nb l = N := ⟨_, rfl⟩
      have hN100 : N ≤ 100 := by rw [← hN]; exact nb_le HOK.out.len
      have hO : Hid (∀ W, Below w3.heap.size w3 W → Calls Tryz.prog 43 #[.pointer (some ⟨M, 2, none⟩)] W fun e w' => ∃ b off cm, e = .returned (.slice (some ⟨b, off, none⟩) N cm) ∧ Below w3.heap.size w3 w' ∧ Vm w' b (off + k * 6) ((bls l k).length, fi l k)) := hide (fun W hW => (open_again W M _ l (T3.out.keep hW)).mono fun e w' ⟨am, cm, h1, h2, h3⟩ => by
        obtain ⟨b, off, ea, hcell⟩ := h2.2.1.2.2 (by omega)
        subst ea
        have q := hcell k _ (mks_get hkn)
        rw [hN] at h1
        exact ⟨b, off, cm, h1, hW.trans (h3.mono hW.size), ((h3.cell (p := ⟨b, off + k * 6, none⟩) (World.block_lt_of_cell? W _ q.1)).trans q.1), q.2.keep h3⟩)
      have hRw : Hid (∀ W, Below w3.heap.size w3 W → ∀ S K T V X, Calls Tryz.prog 44 #[.pointer (some ⟨M, 0, none⟩), .agg #[.int .i64 ((bls l k).length : Nat), .int .i64 S, .int .i64 K, .int .u64 T, .int .u64 V, .int .i64 X]] W fun e w' => ∃ a c, e = .returned (.slice a (ck 20 l k).length c) ∧ Below w3.heap.size w3 w' ∧ Hid (Is w' a (ck 20 l k).length c (ck 20 l k))) := hide (fun W hW S K T V X => (trow_any W M 1 _ l (T3.out.keep hW) k hkn S K T V X).mono fun e w' ⟨a, c, h1, h2, h3, h4, h5⟩ => ⟨a, c, h1, hW.trans (h4.mono hW.size), hide h2⟩)
      have hFd : Hid (∀ W a n c, Below w3.heap.size w3 W → Hid (Is W a n c (ck 20 l k)) → n ≤ 20 → Calls Tryz.prog 48 #[.slice a n c, .agg #[.int .i64 S, .int .i64 K, .int .u64 T, .int .u64 V, .int .i64 X]] W fun e w' => e = .returned (.tuple #[.agg (cv ((fd (ck 20 l k) ⟨S, K, T, V, X⟩).getD oz)).toArray, .bool (fd (ck 20 l k) ⟨S, K, T, V, X⟩).isSome]) ∧ Hid (Below w3.heap.size w3 w')) := hide (fun W a n c hW hI hn => (find_any a n c (ck 20 l k) ⟨S, K, T, V, X⟩ W hI.out (by omega) (HOK.out.rise.sublist (ck_sub l 20 k))).mono fun e w' ⟨h1, h2⟩ => ⟨h1, hide (hW.trans (h2.mono hW.size))⟩)
      obtain ⟨n, hn⟩ : ∃ n, (ck 20 l k).length = n := ⟨_, rfl⟩
      have hn20 : n ≤ 20 := by rw [← hn, ck_len]; omega
      rw [hn] at hRw
      obtain ⟨p, hp⟩ : ∃ p, (bls l k).length = p := ⟨_, rfl⟩
      rw [hp] at hRw hO
      have hkN : k < N := by omega
      rw [← hr.out] at hFd
      obtain ⟨q, hq⟩ : ∃ q, fd l ⟨S, K, T, V, X⟩ = q := ⟨_, rfl⟩
      rw [hq] at hFd
      have HQ := hide hq
      obtain ⟨z, hz⟩ : ∃ z, q.getD oz = z := ⟨_, rfl⟩
      obtain ⟨i, hi⟩ : ∃ i, q.isSome = i := ⟨_, rfl⟩
      rw [hz, hi] at hFd
      have HZ := hide hz
      have HI := hide hi
      obtain ⟨S3, K3, T3', V3, X3⟩ := z
      rw [show (cv ⟨S3, K3, T3', V3, X3⟩).toArray = #[Value.int IntKind.i64 S3, Value.int IntKind.i64 K3, Value.int IntKind.u64 T3', Value.int IntKind.u64 V3, Value.int IntKind.i64 X3] from rfl] at hFd
      generalize fi l k = fx at *
      obtain ⟨S2, K2, T2, V2, X2⟩ := fx
      unfold Vm Vi at hO
      simp only at hO
      have HP := hide (fun W (hW : Below w3.heap.size w3 W) => show W.cell? ⟨R, 0, none⟩ = some (.int .i64 S) ∧ W.cell? ⟨R, 1, none⟩ = some (.int .i64 K) ∧ W.cell? ⟨R, 2, none⟩ = some (.int .u64 T) ∧ W.cell? ⟨R, 3, none⟩ = some (.int .u64 V) ∧ W.cell? ⟨R, 4, none⟩ = some (.int .i64 X) from by
        have q := HX3.out.keep hW
        unfold Vi at q
        simpa only [Nat.zero_add] using q)
      have HVK := hide (fun W (hW : Below w3.heap.size w3 W) => show Vx W (R + 1) 0 0 0 0 0 from VX.out.keep hW)
      obtain ⟨g0, g1, g2, g3, g4⟩ := HP.out _ (Below.refl _ _)
      have hs1 : ((k + 1 : Nat) : Int) - 1 = (k : Int) := by omega
      have hs2 : IntKind.i64.wrap (k : Int) = (k : Int) := by simp [IntKind.wrap, IntKind.bits, IntKind.signed]; omega
      have hs3 : (k : Int) < (N : Int) := by omega
      have hq0 : (((k + 1 : Nat) : Int) == 0) = false := by simp; omega
      have hb0 : Below w3.heap.size w3 w3 := Below.refl _ _
      have hb1 : Below w3.heap.size w3 w3.drew := (Below.refl _ _).drew
      clear hn hp hq hN hkn y0 y1 y2 y3 y4 z0 z1 z2 z3 z4 hz hi
      go_wp2_with fail
      go_region_with (first
        | (go_at_call 43; refine (hO.out _ (by with_reducible assumption)).mono ?_; rintro e w4 ⟨b4, o4, c4, rfl, hb4, m0, m1, m2, m3, m4, m5⟩; obtain ⟨j0, j1, j2, j3, j4⟩ := HP.out _ hb4)
        | (go_at_call 44; refine (hRw.out _ (by with_reducible assumption) _ _ _ _ _).mono ?_; rintro e w5 ⟨a5, c5, rfl, hb5, hI5⟩; obtain ⟨i0, i1, i2, i3, i4⟩ := HP.out _ hb5)
        | (go_at_call 48; refine (hFd.out _ _ _ _ (by with_reducible assumption) (by with_reducible assumption) hn20).mono ?_; rintro e w6 ⟨rfl, hb6⟩; have VX6 := hide (HVK.out _ hb6.out); have gx6 := VX6.out; unfold Vx Vi Vf at gx6; simp only [Nat.zero_add] at gx6; obtain ⟨⟨y0, y1, y2, y3, y4⟩, z0, z1, z2, z3, z4⟩ := gx6))
      all_goals
        go_wp2_with fail
        refine bodyPost_ret (get_results (VX6.out.put S3 K3 T3' V3 X3) _ rfl rfl) rfl ⟨by rw [HQ.out, HZ.out, HI.out]; rfl, ?_⟩
        have hc6 := C3.out.trans (Ch.of hb6.out)
        have := ansT_put AA.out hc6 (T3.out.more hb6.out (fun b hb => Nat.lt_of_lt_of_le (HB.out b hb) (Nat.le_trans AA.out.size C3.out.size))) HRW.out.1 HRW.out.2 HB.out S3 K3 T3' V3 X3
        exact ⟨⟨_, this.1⟩, this.2⟩
end Go.Proofs.YtodhljiboakjnaaGreat.Clep
