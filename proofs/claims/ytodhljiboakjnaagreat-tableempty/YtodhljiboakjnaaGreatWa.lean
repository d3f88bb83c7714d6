/- What the statement TableEmpty does when called: true. No conditions. -/
import Derived.Test.YtodhljiboakjnaaGreatQl
import Derived.Test.YtodhljiboakjnaaGreatQi
import Derived.Test.YtodhljiboakjnaaGreatQk
namespace Go.Proofs.YtodhljiboakjnaaGreat.Clep
open Go.RowKit
set_option linter.unusedVariables false

theorem tok_nil : TOk [] := ⟨by simp, by simp, by simp, by simp⟩
theorem tok_one {x : It} (hw : x.wf) (hk : x.ok = true) : TOk [x] := ⟨by simp, by simpa using hk, by simpa using hw, by simp⟩
theorem x_less (x : It) : x.less x = false := by
  cases h : x.less x with
  | false => rfl
  | true => rw [less_iff] at h; omega
set_option maxRecDepth 100000 in
set_option maxHeartbeats 4000000 in
theorem empty_one (S K T V X V9 : Int) (R R4 : Nat) (w W : World) (hb : Below w.heap.size w W) (hR : w.heap.size ≤ R) (hX : Vi W R 0 S K T V X) (hw : It.wf ⟨S, K, T, V, X⟩) (hk : It.ok ⟨S, K, T, V, X⟩ = true) : True := trivial
set_option maxRecDepth 100000 in
set_option maxHeartbeats 4000000 in
theorem empty_core (x y : It) (v : Int) (l m : List It) (hl : l = []) (hm : x.ok = true → m = [x]) (w : World) (hx : x.wf) (hy : y.wf) (hv : 0 ≤ v ∧ v ≤ 18446744073709551615) :
    Calls Tryz.prog 7 #[.agg #[.int .i64 x.S, .int .i64 x.K, .int .u64 x.T, .int .u64 x.V, .int .i64 x.X], .agg #[.int .i64 y.S, .int .i64 y.K, .int .u64 y.T, .int .u64 y.V, .int .i64 y.X], .int .u64 v] w fun e w' => e = .returned (.bool true) ∧ Below w.heap.size w w' := by
  obtain ⟨S, K, T, V, X⟩ := x
  obtain ⟨S', K', T', V', X'⟩ := y
  simp only
  have A0 := (Below.refl _ w).alloc (Nat.le_refl _) (Obj.cells #[Value.int IntKind.i64 S, Value.int IntKind.i64 K, Value.int IntKind.u64 T, Value.int IntKind.u64 V, Value.int IntKind.i64 X] 25)
  have X0 := vi_new w S K T V X
  obtain ⟨w0, hw0⟩ : ∃ w0, w0 = w.alloc (Obj.cells #[Value.int IntKind.i64 S, Value.int IntKind.i64 K, Value.int IntKind.u64 T, Value.int IntKind.u64 V, Value.int IntKind.i64 X] 25) := ⟨_, rfl⟩
  have hs0 : w0.heap.size = w.heap.size + 1 := by rw [hw0]; simp
  rw [← hw0] at A0 X0
  have A1 := (Below.refl _ w0).alloc (Nat.le_refl _) (Obj.cells #[Value.int IntKind.i64 S', Value.int IntKind.i64 K', Value.int IntKind.u64 T', Value.int IntKind.u64 V', Value.int IntKind.i64 X'] 25)
  have X1 := vi_new w0 S' K' T' V' X'
  obtain ⟨w1, hw1⟩ : ∃ w1, w1 = w0.alloc (Obj.cells #[Value.int IntKind.i64 S', Value.int IntKind.i64 K', Value.int IntKind.u64 T', Value.int IntKind.u64 V', Value.int IntKind.i64 X'] 25) := ⟨_, rfl⟩
  rw [← hw1] at A1 X1
  rw [hs0] at X1
  have B1 := hide (bmore A0 A1)
  have HX := hide (X0.keep A1)
  have HY := hide X1
  have HL := hide hl
  have HM := hide hm
  have HWX := hide hx
  have HWY := hide hy
  have hT : TOk l := by rw [hl]; exact tok_nil
  have HT := hide hT
  have hMk := hide (make_ok none 0 0 l w1 (by rw [hl]; exact is_nil _) hT (by omega))
  clear A0 A1 X0 X1 hs0 hl hm hx hy hT
  go_enter Tryz.func7, Tryz.ntmps7
  go_wp2_with fail
  rw [← hw0, ← hw1]
  clear hw0 hw1
  obtain ⟨R, hR⟩ : ∃ R, R = w.heap.size := ⟨_, rfl⟩
  have HR := hide hR
  rw [← hR] at HX HY ⊢
  clear hR
  refine hMk.out.mono ?_
  rintro e w2 ⟨v2, rfl, ho2, hb2⟩
  obtain ⟨a2, c2, rfl, -, hbs2, -⟩ := own_at0 ho2 (tb_range HT.out)
  have hL2 := (tb_len HT.out).2
  have hRd := tread_any a2 (tb l).length c2 (tb l) w2 hbs2 (by omega)
  rw [isT_tb HT.out, bg_tb HT.out] at hRd
  have HRd := hide hRd
  have B2 := hide (bmore B1.out hb2)
  have HX2 := hide (HX.out.keep hb2)
  have HY2 := hide (HY.out.keep hb2)
  generalize (tb l).length = L at *
  clear hMk ho2 hbs2 hb2 hRd hL2 HX HY B1
  go_wp2_with fail
  refine HRd.out.mono ?_
  rintro e w3 ⟨hb3, ⟨hno, -⟩ | ⟨-, M, rfl, ht3, hM3⟩⟩
  · cases hno
  have B3 := hide (bmore B2.out hb3)
  have HX3 := hide (HX2.out.keep hb3)
  have HY3 := hide (HY2.out.keep hb3)
  have HMw : Hid (w.heap.size ≤ M ∧ R ≠ M ∧ R + 1 ≠ M) := hide ⟨by have := B2.out.size; omega, by have := HX2.out.lt; omega, by have := HY2.out.lt; omega⟩
  have hF := tfirst_any w3 M 0 _ l ht3
  rw [show l.head? = none by rw [HL.out]; rfl] at hF
  have HF := hide hF
  clear HRd hb3 ht3 hF HX2 HY2 B2 hM3
  go_wp2_with fail
  refine HF.out.mono ?_
  rintro e w4 ⟨rfl, ht4, hc4⟩
  have B4 : Hid (Below w.heap.size w w4) := hide (Clep.Below.ch B3.out hc4 B3.out.size (fun i hi => by rw [hi]; exact HMw.out.1))
  have HX4 := hide (HX3.out.ch hc4 HMw.out.2.1)
  have HY4 := hide (HY3.out.ch hc4 HMw.out.2.2)
  have T4 := hide ht4
  clear hc4 ht4 HX3 HY3 B3
  rw [show (cv ((none : Option It).getD oz)).toArray = #[Value.int IntKind.i64 0, Value.int IntKind.i64 0, Value.int IntKind.u64 0, Value.int IntKind.u64 0, Value.int IntKind.i64 0] from rfl, show (none : Option It).isSome = false from rfl]
  have A5 := (Below.refl _ w4).alloc (Nat.le_refl _) (Obj.cells #[Value.int IntKind.i64 0, Value.int IntKind.i64 0, Value.int IntKind.u64 0, Value.int IntKind.u64 0, Value.int IntKind.i64 0] 25)
  obtain ⟨w5, hw5⟩ : ∃ w5, w5 = w4.alloc (Obj.cells #[Value.int IntKind.i64 0, Value.int IntKind.i64 0, Value.int IntKind.u64 0, Value.int IntKind.u64 0, Value.int IntKind.i64 0] 25) := ⟨_, rfl⟩
  rw [← hw5] at A5
  have B5 := hide (bmore B4.out A5)
  have HX5 := hide (HX4.out.keep A5)
  have HY5 := hide (HY4.out.keep A5)
  have T5 := hide (T4.out.keep A5)
  have hn5 : R + 1 < w4.heap.size := HY4.out.lt
  have hm5 : R < w4.heap.size := HX4.out.lt
  clear A5 B4
  have hLa := tlast_any w5 M 1 _ l T5.out
  rw [show l.getLast? = none by rw [HL.out]; rfl] at hLa
  have HLa := hide hLa
  clear hLa HF T4
  go_wp2_with fail
  rw [← hw5]
  clear hw5
  generalize w4.heap.size = R11
  refine HLa.out.mono ?_
  rintro e w6 ⟨rfl, ht6, hc6⟩
  have B6 : Hid (Below w.heap.size w w6) := hide (Clep.Below.ch B5.out hc6 B5.out.size (fun i hi => by rw [hi]; exact HMw.out.1))
  have HX6 := hide (HX5.out.ch hc6 HMw.out.2.1)
  have HY6 := hide (HY5.out.ch hc6 HMw.out.2.2)
  have T6 := hide ht6
  clear hc6 ht6 HX5 HY5 B5
  rw [show (cv ((none : Option It).getD oz)).toArray = #[Value.int IntKind.i64 0, Value.int IntKind.i64 0, Value.int IntKind.u64 0, Value.int IntKind.u64 0, Value.int IntKind.i64 0] from rfl, show (none : Option It).isSome = false from rfl]
  have A7 := (Below.refl _ w6).alloc (Nat.le_refl _) (Obj.cells #[Value.int IntKind.i64 0, Value.int IntKind.i64 0, Value.int IntKind.u64 0, Value.int IntKind.u64 0, Value.int IntKind.i64 0] 25)
  obtain ⟨w7, hw7⟩ : ∃ w7, w7 = w6.alloc (Obj.cells #[Value.int IntKind.i64 0, Value.int IntKind.i64 0, Value.int IntKind.u64 0, Value.int IntKind.u64 0, Value.int IntKind.i64 0] 25) := ⟨_, rfl⟩
  rw [← hw7] at A7
  have B7 := hide (bmore B6.out A7)
  have HX7 := hide (HX6.out.keep A7)
  have HY7 := hide (HY6.out.keep A7)
  have T7 := hide (T6.out.keep A7)
  have hn7 : R + 1 < w6.heap.size := HY6.out.lt
  have hm7 : R < w6.heap.size := HX6.out.lt
  clear A7 B6
  have hG := tget_any w7 M 1 _ l T7.out ⟨S', K', T', V', X'⟩ HWY.out
  rw [show fd l ⟨S', K', T', V', X'⟩ = none by rw [HL.out]; rfl] at hG
  have HG := hide hG
  have gy := HY6.out
  unfold Vi at gy
  simp only [Nat.zero_add] at gy
  obtain ⟨y0, y1, y2, y3, y4⟩ := gy
  clear hG HLa T5 T6
  go_wp2_with fail
  rw [← hw7]
  clear hw7 hn7 hm7 hn5 hm5
  generalize w6.heap.size = R13
  refine HG.out.mono ?_
  rintro e w8 ⟨rfl, ⟨d8, ht8⟩, hc8⟩
  clear y0 y1 y2 y3 y4
  have B8 : Hid (Below w.heap.size w w8) := hide (Clep.Below.ch B7.out hc8 B7.out.size (fun i hi => by rw [hi]; exact HMw.out.1))
  have HX8 := hide (HX7.out.ch hc8 HMw.out.2.1)
  have HY8 := hide (HY7.out.ch hc8 HMw.out.2.2)
  have T8 := hide ht8
  clear hc8 ht8 HX7 HY7 B7
  rw [show (cv ((none : Option It).getD oz)).toArray = #[Value.int IntKind.i64 0, Value.int IntKind.i64 0, Value.int IntKind.u64 0, Value.int IntKind.u64 0, Value.int IntKind.i64 0] from rfl, show (none : Option It).isSome = false from rfl]
  have A9 := (Below.refl _ w8).alloc (Nat.le_refl _) (Obj.cells #[Value.int IntKind.i64 0, Value.int IntKind.i64 0, Value.int IntKind.u64 0, Value.int IntKind.u64 0, Value.int IntKind.i64 0] 25)
  obtain ⟨w9, hw9⟩ : ∃ w9, w9 = w8.alloc (Obj.cells #[Value.int IntKind.i64 0, Value.int IntKind.i64 0, Value.int IntKind.u64 0, Value.int IntKind.u64 0, Value.int IntKind.i64 0] 25) := ⟨_, rfl⟩
  rw [← hw9] at A9
  have B9 := hide (bmore B8.out A9)
  have HX9 := hide (HX8.out.keep A9)
  have HY9 := hide (HY8.out.keep A9)
  have T9 := hide (T8.out.keep A9)
  have hn9 : R + 1 < w8.heap.size := HY8.out.lt
  have hm9 : R < w8.heap.size := HX8.out.lt
  clear A9 B8
  have hLn := tlen_any w9 M d8 _ l T9.out
  rw [show l.length = 0 by rw [HL.out]; rfl] at hLn
  have HLn := hide hLn
  have hAl := tall_any w9 M d8 _ l T9.out
  rw [show l.length = 0 by rw [HL.out]; rfl] at hAl
  have HAl := hide hAl
  clear hLn hAl HG T7 T8
  go_wp2_with fail
  rw [← hw9]
  clear hw9
  generalize w8.heap.size = R15
  refine HLn.out.mono ?_
  rintro e w9' ⟨rfl, rfl⟩
  clear HLn
  go_wp2_with fail
  refine HAl.out.mono ?_
  rintro e w10 ⟨a10, c10, rfl, -, -, ht10, hc10⟩
  clear HAl
  have B10 : Hid (Below w.heap.size w w10) := hide (Clep.Below.ch B9.out hc10 B9.out.size (fun i hi => by rw [hi]; exact HMw.out.1))
  have HX10 := hide (HX9.out.ch hc10 HMw.out.2.1)
  have HY10 := hide (HY9.out.ch hc10 HMw.out.2.2)
  have T10 := hide ht10
  clear hc10 ht10 HX9 HY9 B9
  have gx := HX10.out
  unfold Vi at gx
  simp only [Nat.zero_add] at gx
  obtain ⟨x0, x1, x2, x3, x4⟩ := gx
  have gy := HY10.out
  unfold Vi at gy
  simp only [Nat.zero_add] at gy
  obtain ⟨y0, y1, y2, y3, y4⟩ := gy
  have hRg := hide (trange_any w10 M 1 _ l T10.out ⟨S, K, T, V, X⟩ ⟨S', K', T', V', X'⟩)
  clear T9
  go_wp2_with fail
  refine hRg.out.mono ?_
  rintro e w11 ⟨a11, n11, c11, rfl, hI11, -, -, hc11⟩
  have hn11 : n11 = 0 := by rw [← hI11.1, show l = [] from HL.out]; rfl
  subst hn11
  have B11 : Hid (Below w.heap.size w w11) := hide (Clep.Below.ch B10.out hc11 B10.out.size (fun i hi => by rw [hi]; exact HMw.out.1))
  have HX11 := hide (HX10.out.ch hc11 HMw.out.2.1)
  clear hRg hc11 hI11 HX10 HY10 T10 B10 x0 x1 x2 x3 x4 y0 y1 y2 y3 y4
  have gx := HX11.out
  unfold Vi at gx
  simp only [Nat.zero_add] at gx
  obtain ⟨x0, x1, x2, x3, x4⟩ := gx
  obtain ⟨o, ho⟩ : ∃ o, okI S K T V X = o := ⟨_, rfl⟩
  have cO := hide (refok_any S K T V X w11)
  rw [ho] at cO
  have HO := hide ho
  clear ho
  cases o with
  | false =>
    go_wp2_with (first | (go_at_call 26; refine cO.out.mono ?_; rintro e w12 ⟨rfl, hb12⟩) | (go_at_call 9; refine (qawake_any _).mono ?_; rintro e w13 ⟨rfl, hb13⟩))
    go_ret
    exact ⟨rfl, bmore (bmore B11.out hb12) hb13⟩
  | true =>
    have hm := HM.out HO.out
    have hTm : TOk m := by rw [hm]; exact tok_one HWX.out HO.out
    have HTm := hide hTm
    have hfd : Hid (fd m ⟨S, K, T, v, X⟩ = some ⟨S, K, T, V, X⟩) := hide (by rw [hm]; simp [fd, It.same, sameI])
    have hrg : Hid (rg ⟨S, K, T, V, X⟩ ⟨S, K, T, V, X⟩ m = [⟨S, K, T, V, X⟩]) := hide (by rw [hm]; simp [rg, rgB, x_less])
    have hlen : Hid (m.length = 1) := hide (by rw [hm]; rfl)
    have hone : Hid (∀ W : World, Is (W.alloc (Obj.cells #[Value.int IntKind.i64 S, Value.int IntKind.i64 K, Value.int IntKind.u64 T, Value.int IntKind.u64 V, Value.int IntKind.i64 X] 25)) (some ⟨W.heap.size, 0, none⟩) 1 1 m) := hide (fun W => by rw [hm]; exact is_one W S K T V X HWX.out)
    clear hm hTm HM
    go_wp2_with fail
    refine cO.out.mono ?_
    rintro e w12 ⟨rfl, hb12⟩
    have B12 := hide (bmore B11.out hb12)
    have HX12 := hide (HX11.out.keep hb12)
    clear cO hb12 x0 x1 x2 x3 x4
    have gx := HX12.out
    unfold Vi at gx
    simp only [Nat.zero_add] at gx
    obtain ⟨x0, x1, x2, x3, x4⟩ := gx
    have A13 := (Below.refl _ w12).alloc (Nat.le_refl _) (Obj.cells #[Value.int IntKind.i64 S, Value.int IntKind.i64 K, Value.int IntKind.u64 T, Value.int IntKind.u64 V, Value.int IntKind.i64 X] 25)
    have I13 := hone.out w12
    obtain ⟨w13, hw13⟩ : ∃ w13, w13 = w12.alloc (Obj.cells #[Value.int IntKind.i64 S, Value.int IntKind.i64 K, Value.int IntKind.u64 T, Value.int IntKind.u64 V, Value.int IntKind.i64 X] 25) := ⟨_, rfl⟩
    rw [← hw13] at A13 I13
    have hMk := hide (make_ok _ 1 1 m w13 I13 HTm.out (by omega))
    have B13 := hide (bmore B12.out A13)
    have HX13 := hide (HX12.out.keep A13)
    clear A13 I13 hone
    go_wp2_with fail
    rw [← hw13]
    clear hw13 x0 x1 x2 x3 x4
    generalize w12.heap.size = R91 at *
    refine hMk.out.mono ?_
    rintro e w14 ⟨v14, rfl, ho14, hb14⟩
    obtain ⟨a14, c14, rfl, -, hbs14, -⟩ := own_at0 ho14 (tb_range HTm.out)
    have hL14 := (tb_len HTm.out).2
    have hRd := tread_any a14 (tb m).length c14 (tb m) w14 hbs14 (by omega)
    rw [isT_tb HTm.out, bg_tb HTm.out] at hRd
    have HRd2 := hide hRd
    have B14 := hide (bmore B13.out hb14)
    have HX14 := hide (HX13.out.keep hb14)
    generalize (tb m).length = L14 at *
    clear hMk ho14 hbs14 hb14 hRd hL14
    go_wp2_with fail
    refine HRd2.out.mono ?_
    rintro e w15 ⟨hb15, ⟨hno, -⟩ | ⟨-, M2, rfl, ht15, hM15⟩⟩
    · cases hno
    have B15 := hide (bmore B14.out hb15)
    have HX15 := hide (HX14.out.keep hb15)
    have HM2 : Hid (w.heap.size ≤ M2 ∧ R ≠ M2) := hide ⟨by have := B14.out.size; omega, by have := HX14.out.lt; omega⟩
    have A16 := (Below.refl _ w15).alloc (Nat.le_refl _) (Obj.cells #[Value.int IntKind.i64 S, Value.int IntKind.i64 K, Value.int IntKind.u64 T, Value.int IntKind.u64 v, Value.int IntKind.i64 X] 25)
    obtain ⟨w16, hw16⟩ : ∃ w16, w16 = w15.alloc (Obj.cells #[Value.int IntKind.i64 S, Value.int IntKind.i64 K, Value.int IntKind.u64 T, Value.int IntKind.u64 v, Value.int IntKind.i64 X] 25) := ⟨_, rfl⟩
    rw [← hw16] at A16
    have hG := tget_any w16 M2 0 _ m (ht15.keep A16) ⟨S, K, T, v, X⟩ ⟨HWX.out.1, HWX.out.2.1, HWX.out.2.2.1, hv, HWX.out.2.2.2.2⟩
    rw [hfd.out] at hG
    have HG := hide hG
    have B16 := hide (bmore B15.out A16)
    have HX16 := hide (HX15.out.keep A16)
    have gx := HX15.out
    unfold Vi at gx
    simp only [Nat.zero_add] at gx
    obtain ⟨x0, x1, x2, x3, x4⟩ := gx
    clear HRd2 hb15 ht15 hG A16
    go_wp2_with fail
    rw [← hw16]
    clear hw16 x0 x1 x2 x3 x4
    generalize w15.heap.size = R21 at *
    refine HG.out.mono ?_
    rintro e w17 ⟨rfl, ⟨d17, ht17⟩, hc17⟩
    have B17 : Hid (Below w.heap.size w w17) := hide (Clep.Below.ch B16.out hc17 B16.out.size (fun i hi => by rw [hi]; exact HM2.out.1))
    have HX17 := hide (HX16.out.ch hc17 HM2.out.2)
    rw [show (cv ((some (⟨S, K, T, V, X⟩ : It)).getD oz)).toArray = #[Value.int IntKind.i64 S, Value.int IntKind.i64 K, Value.int IntKind.u64 T, Value.int IntKind.u64 V, Value.int IntKind.i64 X] from rfl, show (some (⟨S, K, T, V, X⟩ : It)).isSome = true from rfl]
    have A18 := (Below.refl _ w17).alloc (Nat.le_refl _) (Obj.cells #[Value.int IntKind.i64 S, Value.int IntKind.i64 K, Value.int IntKind.u64 T, Value.int IntKind.u64 V, Value.int IntKind.i64 X] 25)
    obtain ⟨w18, hw18⟩ : ∃ w18, w18 = w17.alloc (Obj.cells #[Value.int IntKind.i64 S, Value.int IntKind.i64 K, Value.int IntKind.u64 T, Value.int IntKind.u64 V, Value.int IntKind.i64 X] 25) := ⟨_, rfl⟩
    rw [← hw18] at A18
    have T18 := hide (ht17.keep A18)
    have hLn := tlen_any w18 M2 d17 _ m (ht17.keep A18)
    rw [hlen.out] at hLn
    have HLn2 := hide hLn
    have hRg := hide (trange_any w18 M2 d17 _ m (ht17.keep A18) ⟨S, K, T, V, X⟩ ⟨S, K, T, V, X⟩)
    have B18 := hide (bmore B17.out A18)
    have gx := HX17.out
    unfold Vi at gx
    simp only [Nat.zero_add] at gx
    obtain ⟨x0, x1, x2, x3, x4⟩ := gx
    have hlt17 : R < w17.heap.size := HX17.out.lt
    have HX18 := hide (HX17.out.keep A18)
    clear HG hc17 ht17 hLn A18
    go_wp2_with fail
    rw [← hw18]
    clear hw18 x0 x1 x2 x3 x4
    have gx := HX18.out
    unfold Vi at gx
    simp only [Nat.zero_add] at gx
    obtain ⟨x0, x1, x2, x3, x4⟩ := gx
    refine HLn2.out.mono ?_
    rintro e w19 ⟨rfl, rfl⟩
    go_wp2_with fail
    refine hRg.out.mono ?_
    rintro e w20 ⟨a20, n20, c20, rfl, hI20, -, -, hc20⟩
    have hn20 : n20 = 1 := by rw [← hI20.1, hrg.out]; rfl
    subst hn20
    have B20 : Hid (Below w.heap.size w w20) := hide (Clep.Below.ch B18.out hc20 B18.out.size (fun i hi => by rw [hi]; exact HM2.out.1))
    clear hRg hI20 hc20 x0 x1 x2 x3 x4
    go_wp2_with (first | (go_at_call 9; refine (qawake_any _).mono ?_; rintro e w21 ⟨rfl, hb21⟩))
    go_ret
    exact ⟨rfl, bmore B20.out hb21⟩
theorem empty_walk (x y : It) (v : Int) (w : World) (hx : x.wf) (hy : y.wf) (hv : 0 ≤ v ∧ v ≤ 18446744073709551615) :
    Calls Tryz.prog 7 #[.agg #[.int .i64 x.S, .int .i64 x.K, .int .u64 x.T, .int .u64 x.V, .int .i64 x.X], .agg #[.int .i64 y.S, .int .i64 y.K, .int .u64 y.T, .int .u64 y.V, .int .i64 y.X], .int .u64 v] w fun e w' => e = .returned (.bool true) ∧ Below w.heap.size w w' :=
  empty_core x y v [] [x] rfl (fun _ => rfl) w hx hy hv

end Go.Proofs.YtodhljiboakjnaaGreat.Clep
