/- A View that comes in, opened; the statement ManArgs: it answers true (a walk over the translated program). No conditions. -/
import Derived.Test.YtcahlmneancapabGreatDoorFu26
import Derived.Test.YtcahlmneancapabGreatDoorFu24
import Derived.Test.YtcahlmneancapabGreatDoorFu01
import Derived.Deep.RegionWith
import Derived.BigRegion
import Derived.Test.YtcahlmneancapabGreatDoorFu00
namespace Go.Proofs.YtcahlmneancapabGreatDoor.Clep
open Go.RowKit Go.Maps Go.Sort Go.ChangeShapes Go.WideShapes Go.Deep
set_option linter.unusedVariables false

theorem ecellsV : Tryz.prog.cellsOf 35 = 6 := by kernel_rfl
theorem elist6 {α : Type} {cs : List α} (h : cs.length = 6) : ∃ c0 c1 c2 c3 c4 c5, cs = [c0, c1, c2, c3, c4, c5] := by
  match cs, h with
  | [c0, c1, c2, c3, c4, c5], _ => exact ⟨c0, c1, c2, c3, c4, c5, rfl⟩
section
variable {H : Type} {enc : TypeId × Value → H} {W : World} {base : Nat} {spare : Nat → Bool} {held : Bool}
set_option maxRecDepth 100000 in
theorem fs_trod_c {fuel : Nat} {cs : List Value} {x : DataW H × List MemPlace} (h : DataW.trod enc Tryz.prog W base spare held fuel 32 cs = some x) : ∃ a n c l, cs = [.slice a n c] ∧ Fs W a n c l ∧ n ≤ 9223372036854775807 ∧ c ≤ 9223372036854775807 := by
  haveI : Inhabited Fi := ⟨⟨0, 0⟩⟩
  rcases open_slice Tryz.underlying32 h with ⟨hcs, _⟩ | ⟨x, l, c, m, n, D, Pl, hcs, _, hl, hm, hmm, _, hx⟩
  · exact ⟨none, 0, 0, [], hcs, fs_nil W, by omega, by omega⟩
  · have hlm : l ≤ m := by rw [hmm]; split <;> omega
    have each : ∀ i, i < l → ∃ y : Fi, y.wf ∧ (∀ j u, [Value.int IntKind.i64 y.L, .int .i64 y.N][j]? = some u → W.cell? ((x.add (i * 2)).add j) = some u) := by
      intro i hi
      obtain ⟨cs', h1, h2⟩ := hx i (by omega)
      rw [ecellsF] at h1
      obtain ⟨y, e, hy⟩ := file_cells h2
      obtain ⟨_, hlen, hc⟩ := World.cells?_some h1
      refine ⟨y, hy, fun j u hu => ?_⟩
      rw [← e] at hu
      rw [hc j (by have := (List.getElem?_eq_some_iff.1 hu).1; omega)]
      exact hu
    obtain ⟨q, hq⟩ := echoose each
    refine ⟨some x, l, c, (List.range l).map q, hcs, ⟨by simp, ⟨hl, fun h => by cases h⟩, ?_, fun h0 => ?_⟩, by unfold maxLen at hm; omega, by unfold maxLen at hm; omega⟩
    · intro y hy
      obtain ⟨i, hi, rfl⟩ := List.mem_map.1 hy
      exact (hq i (List.mem_range.1 hi)).1
    · obtain ⟨b, off, spot⟩ := x
      have hc := (hq 0 h0).2 0 _ rfl
      have hspot : spot = none := by simpa [Addr.add] using World.cell?_spot hc
      subst hspot
      refine ⟨b, off, rfl, fun i f hf => ?_⟩
      have hil : i < l := by have := (List.getElem?_eq_some_iff.1 hf).1; simpa using this
      have hfq : f = q i := by
        rw [List.getElem?_map, List.getElem?_range hil] at hf
        exact (Option.some.inj hf).symm
      subst hfq
      have h0' := (hq i hil).2 0 _ rfl
      have h1' := (hq i hil).2 1 _ rfl
      rw [add_plain, add_plain] at h0' h1'
      exact ⟨h0', h1'⟩

set_option maxRecDepth 100000 in
theorem open_view {r : Reach} {b0 : Nat} {v : Value} {d : DataW H} {p : List MemPlace} (hv : Value.okWide Tryz.prog W r b0 35 v) (h : DataW.Trod enc Tryz.prog W base spare held 35 v d p) :
    ∃ a n c V, v = vwV a n c V ∧ Fs W a n c V.f ∧ n ≤ 9223372036854775807 ∧ c ≤ 9223372036854775807 ∧ Vnn V := by
  obtain ⟨cs, rfl, _⟩ := okWide_struct Tryz.underlying35 hv
  obtain ⟨fuel, hf⟩ := h
  obtain ⟨xs, n, _, _, hl, hlen, hx⟩ := DataW.trod_struct Tryz.underlying35 hf
  obtain ⟨l⟩ := cs
  simp only [Value.cells] at hl hx
  rw [ecellsV] at hl
  obtain ⟨c0, c1, c2, c3, c4, c5, rfl⟩ := elist6 hl
  obtain ⟨x0, x1, x2, x3, x4, x5, rfl⟩ := elist6 (show xs.length = 6 from hlen)
  have g0 := hx 0 _ rfl
  have g1 := hx 1 _ rfl
  have g2 := hx 2 _ rfl
  have g3 := hx 3 _ rfl
  have g4 := hx 4 _ rfl
  have g5 := hx 5 _ rfl
  simp [ecellsI, ecellsU, ecellsSF] at g0 g1 g2 g3 g4 g5
  obtain ⟨L, e0, _, w0⟩ := DataW.trod_int Tryz.underlying3 g0
  obtain ⟨a, m, c, fl, e1, hfs, hm, hcm⟩ := fs_trod_c g1
  obtain ⟨F, e2, _, w2⟩ := DataW.trod_int Tryz.underlying33 g2
  obtain ⟨C, e3, _, w3⟩ := DataW.trod_int Tryz.underlying33 g3
  obtain ⟨A, e4, _, w4⟩ := DataW.trod_int Tryz.underlying33 g4
  obtain ⟨X, e5, _, w5⟩ := DataW.trod_int Tryz.underlying33 g5
  cases e0; cases e1; cases e2; cases e3; cases e4; cases e5
  exact ⟨a, m, c, ⟨L, fl, F, C, A, X⟩, rfl, hfs, hm, hcm, (u64_bounds w2).1, (u64_bounds w3).1, (u64_bounds w4).1, (u64_bounds w5).1⟩
end
set_option maxHeartbeats 8000000 in
theorem manargs_any (a : Option Addr) (n c : Nat) (V : Vw) (w : World) (hf : Fs w a n c V.f) (hn : n ≤ 9223372036854775807) (hcm : c ≤ 9223372036854775807) (hu : Vnn V) :
    Calls Tryz.prog 4 #[vwV a n c V] w fun e w' => e = .returned (.bool true) ∧ Below w.heap.size w w' := by
  have hA := (Below.refl _ w).alloc (Nat.le_refl _) (Obj.cells #[.int .i64 V.lg, .slice a n c, .int .u64 V.fl, .int .u64 V.ct, .int .u64 V.at9, .int .u64 V.ls] 35)
  have hk := ek_new w #[.int .i64 V.lg, .slice a n c, .int .u64 V.fl, .int .u64 V.ct, .int .u64 V.at9, .int .u64 V.ls] 35
  have hfA := hf.below hA (Nat.le_refl _)
  obtain ⟨B, hB⟩ : ∃ B, w.heap.size = B := ⟨_, rfl⟩
  obtain ⟨wa, hwa⟩ : ∃ x, w.alloc (Obj.cells #[.int .i64 V.lg, .slice a n c, .int .u64 V.fl, .int .u64 V.ct, .int .u64 V.at9, .int .u64 V.ls] 35) = x := ⟨_, rfl⟩
  have HWA := hide hwa
  rw [hwa, hB] at hA hk
  rw [hwa] at hfA
  have hszA : B < wa.heap.size := hk.lt
  have hfl := hf.1
  have HFL := hide hfl
  have HKA := hide hk
  have HBA := hide hA
  have HF := hide hfA
  have AW := hide (fun W => mawake_any W)
  have c1 := hk.cell (o := 1) rfl
  clear hA hk hfA hf hwa
  unfold vwV
  go_enter Tryz.func4, Tryz.ntmps4
  go_upto_region 1 with fail
  first | rw [hB, HWA.out] | rw [HWA.out]
  by_cases q60 : (60 : Int) < (n : Int)
  · go_wp2_with fail
    refine (AW.out wa).mono ?_
    rintro e w2 ⟨rfl, hb2⟩
    have HB2 := hide (HBA.out.trans (hb2.mono (Nat.le_of_lt hszA)))
    clear AW hb2
    go_wp2
    go_ret
    exact ⟨rfl, by first | exact HB2.out | (rw [hB]; exact HB2.out)⟩
  · have ND := hide (kd_new 1048576 wa (by decide) 1048576 rfl)
    clear c1
    have c1 := HKA.out.cell (o := 1) rfl
    go_wp2_with fail
    refine ND.out.mono ?_
    rintro e w1 ⟨R, rfl, D1, s1⟩
    have KW := hide (show ∀ W, Below wa.heap.size wa W → Ek W B #[.int .i64 V.lg, .slice a n c, .int .u64 V.fl, .int .u64 V.ct, .int .u64 V.at9, .int .u64 V.ls] 35 ∧ Fs W a n c V.f from fun W hW => ⟨HKA.out.keep hW, HF.out.below hW (Nat.le_refl _)⟩)
    have b1 := hide (s1.below (B := wa.heap.size) (fun j hj => hj))
    obtain ⟨hk1, hf1⟩ := KW.out w1 b1.out
    have d0 := hk1.cell (o := 0) rfl
    have d1 := hk1.cell (o := 1) rfl
    have d2 := hk1.cell (o := 2) rfl
    have d3 := hk1.cell (o := 3) rfl
    have d4 := hk1.cell (o := 4) rfl
    have d5 := hk1.cell (o := 5) rfl
    clear ND c1 hk1 s1
    obtain ⟨o, hv⟩ : ∃ o, vok V = o := ⟨_, rfl⟩
    have VO := hide (fun W (hW : Below wa.heap.size wa W) => viewok_any a n c V W (KW.out W hW).2 hn)
    have MN := hide (fun W => mnew_nil none 0 0 oneV W)
    have ON := hide (fun W => open_nil W)
    rw [hv] at VO
    unfold vwV at VO
    unfold vwV oneV at MN
    cases o with
    | true =>
      have hw := (whB_facts (whole_may hv hu)).2
      have hz := leB_len 1
      obtain ⟨S1, N1⟩ := new_ok leB 1048576 (whB V) (by omega) (by omega)
      have NM := hide (km_new a n c V D1 hf1 hcm hv hu N1)
      have HN1 := hide N1
      have HNN := hide hu
      unfold vwV at NM
      clear D1 hf1 N1 hu
      go_wp2_with fail
      refine NM.out.mono ?_
      rintro e w2 ⟨M, rfl, k2, s2, -⟩
      have b2 := hide (b1.out.trans (s2.below (B := wa.heap.size) (fun j hj => hj)))
      have hk2 := (KW.out w2 b2.out).1
      have e0 := hk2.cell (o := 0) rfl
      have e1 := hk2.cell (o := 1) rfl
      have e2 := hk2.cell (o := 2) rfl
      have e3 := hk2.cell (o := 3) rfl
      have e4 := hk2.cell (o := 4) rfl
      have e5 := hk2.cell (o := 5) rfl
      have K2 := hide k2
      clear NM s2 k2 hk2 d0 d1 d2 d3 d4 d5
      go_wp2_with fail
      refine (VO.out w2 b2.out).mono ?_
      rintro e w3 ⟨rfl, hb3⟩
      clear VO e0 e1 e2 e3 e4 e5
      go_wp2_with fail
      refine (MN.out w3).mono ?_
      rintro e w4 ⟨rfl, hb4⟩
      clear MN
      go_wp2_with fail
      refine (ON.out w4).mono ?_
      rintro e w5 ⟨rfl, rfl⟩
      have hb24 := bmore hb3 hb4
      have b5 := hide (b2.out.trans (hb24.mono b2.out.size))
      have VW := hide (fun W (hW : Below w5.heap.size w5 W) => km_view ((K2.out.below hb24).below hW) (by have := HFL.out; omega))
      have CT := hide (fun W (hW : Below w5.heap.size w5 W) => km_count ((K2.out.below hb24).below hW))
      have BR := hide (fun W (hW : Below w5.heap.size w5 W) => km_broken ((K2.out.below hb24).below hW))
      have SM := hide (fun (a' : Option Addr) (c' : Nat) (W7 W : World) (h7 : Below w5.heap.size w5 W7) (hW : Below W7.heap.size W7 W) (f7 : Fs W7 a' V.f.length c' V.f) => sameview_any a' a V.f.length c' n c V V W (f7.below hW (Nat.le_refl _)) (KW.out W (b5.out.trans ((bmore h7 hW).mono b5.out.size))).2 (by have := HFL.out; omega) hn)
      unfold vwV at VW SM
      rw [HFL.out] at VW SM
      clear hb3 hb4 hb24 ON
      go_upto_region 10 with fail
      have hk5 := (KW.out w5 b5.out).1
      have e0 := hk5.cell (o := 0) rfl
      have e1 := hk5.cell (o := 1) rfl
      have e2 := hk5.cell (o := 2) rfl
      have e3 := hk5.cell (o := 3) rfl
      have e4 := hk5.cell (o := 4) rfl
      have e5 := hk5.cell (o := 5) rfl
      have hb0 : Below w5.heap.size w5 w5 := Below.refl _ _
      have hb1 : Below w5.heap.size w5 w5.drew := (Below.refl _ _).drew
      clear hk5
      go_region_with (first
        | (go_at_call 17; refine (VW.out _ (by with_reducible assumption)).mono ?_; rintro e w7 ⟨a', c', rfl, -, f7, -, hb7⟩; have hb7 : Below w5.heap.size w5 w7 := bmore (by with_reducible assumption) hb7; have HB7 := hide hb7; have hk7 := (KW.out w7 (b5.out.trans (hb7.mono b5.out.size))).1; have F7 := hide f7; have g0 := hk7.cell (o := 0) rfl; have g1 := hk7.cell (o := 1) rfl; have g2 := hk7.cell (o := 2) rfl; have g3 := hk7.cell (o := 3) rfl; have g4 := hk7.cell (o := 4) rfl; have g5 := hk7.cell (o := 5) rfl; have hc0 : Below w7.heap.size w7 w7 := Below.refl _ _; have hc1 : Below w7.heap.size w7 w7.drew := (Below.refl _ _).drew; clear hk7 f7 hb7)
        | (go_at_call 18; refine (SM.out _ _ w7 _ HB7.out (by with_reducible assumption) F7.out).mono ?_; rintro e w8 ⟨o, rfl, ho, hb8⟩; obtain rfl : o = true := ho.2 (by first | rfl | trivial); have hb68 := hide (bmore HB7.out (bmore (by with_reducible assumption) hb8)); have hd0 : Below w5.heap.size w5 w8 := hb68.out; have hd1 : Below w5.heap.size w5 w8.drew := hb68.out.trans ((Below.refl _ _).drew.mono hb68.out.size); clear ho hb8)
        | (go_at_call 19; refine (CT.out _ (by with_reducible assumption)).mono ?_; rintro e w9 ⟨rfl, rfl⟩)
        | (go_at_call 20; refine (BR.out _ (by with_reducible assumption)).mono ?_; rintro e w10 ⟨rfl, rfl⟩)
        | (go_at_call 8; refine (AW.out _).mono ?_; rintro e w11 ⟨rfl, hb11⟩; have hb511 := hide (show Below w5.heap.size w5 w11 from bmore (by with_reducible assumption) hb11); clear hb11))
      all_goals
        have HB9 := hide (HBA.out.trans ((b5.out.trans (hb511.out.mono b5.out.size)).mono (Nat.le_of_lt hszA)))
        clear AW SM VW CT BR hb511
        go_wp2
        go_ret
        exact ⟨rfl, by first | exact HB9.out | (rw [hB]; exact HB9.out)⟩
    | false =>
      have NM := hide (mnew_bad R a n c V w1 hf1 hn hcm hv)
      unfold vwV at NM
      clear D1 hf1
      go_wp2_with fail
      refine NM.out.mono ?_
      rintro e w2 ⟨rfl, hb2⟩
      have b2 := hide (b1.out.trans (hb2.mono b1.out.size))
      have hk2 := (KW.out w2 b2.out).1
      have e0 := hk2.cell (o := 0) rfl
      have e1 := hk2.cell (o := 1) rfl
      have e2 := hk2.cell (o := 2) rfl
      have e3 := hk2.cell (o := 3) rfl
      have e4 := hk2.cell (o := 4) rfl
      have e5 := hk2.cell (o := 5) rfl
      clear NM hb2 hk2 d0 d1 d2 d3 d4 d5
      go_wp2_with fail
      refine (VO.out w2 b2.out).mono ?_
      rintro e w3 ⟨rfl, hb3⟩
      clear VO e0 e1 e2 e3 e4 e5
      go_wp2_with fail
      refine (MN.out w3).mono ?_
      rintro e w4 ⟨rfl, hb4⟩
      clear MN
      go_wp2_with fail
      refine (ON.out w4).mono ?_
      rintro e w5 ⟨rfl, rfl⟩
      have hb24 := bmore hb3 hb4
      have b5 := hide (b2.out.trans (hb24.mono b2.out.size))
      clear hb3 hb4 hb24 ON
      go_upto_region 10 with fail
      have ca : Hid (∀ p : Kp w5, Calls Tryz.prog 8 #[] p.W fun e w'' => e = .returned (.bool true) ∧ ∃ q : Kp w5, w'' = q.W) := hide fun p => kp_call (AW.out p.W)
      have hne : Nonempty (Kp w5) := ⟨⟨_, Below.refl _ _⟩⟩
      refine wp_region_kept (by kernel_rfl) (by kernel_rfl) ?_
      repeat (first
        | go_big_quiet_step (first | (go_at_call 8; exact ca.out _))
        | fail)
      refine wpQuiet_nil ?_
      intro w10 hw'
      have hb10 : Below w5.heap.size w5 w10 := by
        obtain ⟨⟨w3', hb3⟩, hw''⟩ := hw'
        rw [hw'']; exact hb3
      have HB9 := hide (HBA.out.trans ((b5.out.trans (hb10.mono b5.out.size)).mono (Nat.le_of_lt hszA)))
      clear AW hw' hne ca hb10
      go_wp2
      go_ret
      exact ⟨rfl, by first | exact HB9.out | (rw [hB]; exact HB9.out)⟩

end Go.Proofs.YtcahlmneancapabGreatDoor.Clep
