/- What Crash of a Disk does when called: the walk over the translated program. For any Disk of at most 2^40 calls, any numbers that are none of the Disk's own. -/
import Derived.Test.YthmfkfiblaamfabDCrashW
namespace Go.Proofs.Ythmfkfiblaamfab.Clep
open Go.RowKit Go.Maps
set_option linter.unusedVariables false

/-- Numbers in a row that a call made, as a slice value. -/
theorem ints_slice {w : World} {B : Nat} {v : Value} {zs : List Int} (h : w.ownsRow B 3 1 v zs.length (zs.map encZ)) : ∃ so sc, v = .slice so zs.length sc ∧ zs.length ≤ sc ∧ (0 < zs.length → ∃ g, so = some ⟨g, 0, none⟩ ∧ B ≤ g ∧ g < w.heap.size ∧ ∀ i, i < zs.length → w.cell? ⟨g, i, none⟩ = some (.int .i64 (zs.getD i 0))) := by
  have h0 := h
  obtain ⟨h1, ⟨rfl, h3⟩ | ⟨g, cap, cur, rfl, hg, hh, hnc, hcm, hcs, hx⟩⟩ := h
  · exact ⟨none, 0, by rw [h3], by omega, fun h => by omega⟩
  · refine ⟨_, cap, rfl, hnc, fun _ => ⟨g, rfl, hg, (Array.getElem?_eq_some_iff.1 hh).1, fun i hi => ?_⟩⟩
    have hc := World.ownsRow.cells h0 (g := g) rfl i (.int .i64 (zs.getD i 0)) (by simp [List.getElem?_eq_getElem hi, List.getD])
    rwa [add_plain, Nat.zero_add] at hc
theorem pair_mid {l : List Fl} {j : Nat} {f : Fl} (h : l[j]? = some f) : l = l.take j ++ f :: l.drop (j + 1) ∧ l.take (j + 1) = l.take j ++ [f] := by
  obtain ⟨hj, rfl⟩ := List.getElem?_eq_some_iff.1 h
  refine ⟨?_, ?_⟩
  · rw [← List.drop_eq_getElem_cons hj, List.take_append_drop]
  · rw [List.take_succ_eq_append_getElem hj]
theorem row_slice {w : World} {B e sz n : Nat} {v : Value} {xs : List Value} (h : w.ownsRow B e sz v n xs) : ∃ so sc, v = .slice so n sc ∧ n ≤ sc ∧ (0 < n → ∃ g, so = some ⟨g, 0, none⟩ ∧ ∀ i u, xs[i]? = some u → w.cell? ⟨g, i, none⟩ = some u) := by
  have h0 := h
  obtain ⟨h1, ⟨rfl, h3⟩ | ⟨g, cap, cur, rfl, hg, hh, hnc, hcm, hcs, hx⟩⟩ := h
  · exact ⟨none, 0, by rw [h3], by omega, fun h => by omega⟩
  · refine ⟨_, cap, rfl, hnc, fun _ => ⟨g, rfl, fun i u hu => ?_⟩⟩
    have hc := World.ownsRow.cells h0 (g := g) rfl i u hu
    rwa [add_plain, Nat.zero_add] at hc
theorem ch_at {l : List Ch} {j : Nat} {c : Ch} (h : l[j]? = some c) (i : Nat) (hi : i < 4) : (l.flatMap chCells)[j * 4 + i]? = (chCells c)[i]? := by
  induction l generalizing j with
  | nil => simp at h
  | cons d l ih =>
    rw [List.flatMap_cons]
    cases j with
    | zero =>
      simp only [List.getElem?_cons_zero, Option.some.injEq] at h
      subst h
      rw [Nat.zero_mul, Nat.zero_add, List.getElem?_append_left (by simp [chCells]; omega)]
    | succ j =>
      simp only [List.getElem?_cons_succ] at h
      rw [List.getElem?_append_right (by simp [chCells]; omega)]
      have := ih h
      rw [show (j + 1) * 4 + i - (chCells d).length = j * 4 + i from by simp [chCells]; omega]
      exact this
theorem ch_take {l : List Ch} {j : Nat} {c : Ch} (h : l[j]? = some c) : l.take (j + 1) = l.take j ++ [c] := by
  obtain ⟨hj, rfl⟩ := List.getElem?_eq_some_iff.1 h
  rw [List.take_succ_eq_append_getElem hj]
theorem step_turn {τ : Nat → Nat} {V : Nat} {wS wr w4 : World} {o : Obj} (hT : Turn τ (fun n => n = 4 ∨ n = 6) wS wr) (hV : τ V = 6) (O1 : One V (wr.alloc o) w4) : Turn τ (fun n => n = 4 ∨ n = 6) wS w4 :=
  ⟨by have h1 := O1.size; simp at h1; have h2 := hT.1; omega, fun i hi ht => by
    rw [O1.block i (fun e => ht (.inr (by rw [e]; exact hV)))]
    exact (Below.heap_alloc wr o i (Nat.lt_of_lt_of_le hi hT.1)).trans (hT.2 i hi ht)⟩
theorem step_turn2 {τ : Nat → Nat} {b : Nat} {wS w4 w5 : World} (hT : Turn τ (fun n => n = 4 ∨ n = 6) wS w4) (hb : τ b = 4) (g5 : w4.drew.grownBy w5 (some b)) : Turn τ (fun n => n = 4 ∨ n = 6) wS w5 :=
  ⟨Nat.le_trans hT.1 g5.size, fun i hi ht => by
    rw [g5.block i (Nat.lt_of_lt_of_le hi hT.1) (fun e => ht (.inl (by rw [Option.some.inj e]; exact hb)))]
    exact hT.2 i hi ht⟩

set_option maxHeartbeats 800000 in
set_option maxRecDepth 4000 in
theorem crash_any (R : Nat) (S : St) (G : Gh) (ao : Option Addr) (len cap : Nat) (ks : List Int) (w : World) (h : DiskIs w R S G) (hm : S.calls ≤ 1099511627776) (hk : NumV (fun i => G.τ i = 0 ∧ i < w.heap.size) w (.slice ao len cap) ks) :
    Calls Try.prog 15 #[.pointer (some ⟨R, 0, none⟩), .slice ao len cap] w fun e w' => e = .returned (.tuple #[]) ∧ ∃ G', DiskIs w' R (crashS S ks) G' ∧ Kept G G' w w' := by
  have H := hide h
  obtain ⟨DA, KA⟩ := tag_new h (.cells #[.slice ao len cap] 67)
  have hA0 : Var1 (w.alloc (.cells #[.slice ao len cap] 67)) w.heap.size (.slice ao len cap) := ⟨_, (MapKept.heap_alloc w _).1⟩
  have hNA : NumV (fun i => (tagV G w.heap.size).τ i = 0) (w.alloc (.cells #[.slice ao len cap] 67)) (.slice ao len cap) ks := by
    obtain ⟨ao', cap', e, h1, h2, h3, h4⟩ := hk
    refine ⟨ao', cap', e, h1, h2, h3, fun h0 => ?_⟩
    obtain ⟨b, off, e1, ⟨q1, q2⟩, hc⟩ := h4 h0
    refine ⟨b, off, e1, ?_, fun i hi => ?_⟩
    · show (if b = w.heap.size then 6 else G.τ b) = 0
      rw [if_neg (by omega)]; exact q1
    · rw [World.cell?_of_block (w := w) (Below.heap_alloc w _ b q2)]; exact hc i hi
  have HDA := hide DA
  have HKA := hide KA
  have HVA := hide hA0
  have HNA := hide hNA
  have a6 := DA.cells.2.1.2.1
  have htV : (tagV G w.heap.size).τ w.heap.size = 6 := if_pos rfl
  have HtV := hide htV
  obtain ⟨D, f1, f2, f3⟩ := DA.fm
  have SO := hide (sorted_any _ _ D _ f1 (by unfold maxLen; omega) (by omega))
  have FP := hide (files_perm f1 f2 h.ok.rise)
  clear DA KA hA0 hNA h hk htV f1 f2 f3
  generalize hG : tagV G w.heap.size = GV at *
  have HG := hide hG
  clear hG
  go_enter Try.func15, Try.ntmps15
  go_wp2_with fail
  generalize w.alloc (.cells #[.slice ao len cap] 67) = wA at *
  refine (keys_any _ _).mono ?_
  rintro e w1 ⟨rfl, rfl⟩
  go_wp2_with fail
  refine SO.out.mono ?_
  rintro e w2 ⟨v, ss, rfl, hS, hrow, hb2⟩
  have hss := sort_files FP.out hS H.out.ok.rise
  have hsl : ss.length = (S.files.map fun f => (f.num : Int)).length := (hS.trans FP.out.symm).length_eq
  rw [hss, hsl] at hrow
  obtain ⟨so, sc, rfl, hsc, hcell⟩ := ints_slice hrow
  have hB2 : Below wA.heap.size wA w2 := ((Below.refl wA.heap.size wA).alloc (Nat.le_refl _) _).trans (hb2.mono (by omega))
  have hVlt := HVA.out.lt
  have D2 := hide (HDA.out.below hB2)
  have K2 := hide (HKA.out.trans (Kept.of_below hB2))
  have V2 := hide (show Var1 w2 w.heap.size (.slice ao len cap) by obtain ⟨T, hT⟩ := HVA.out; exact ⟨T, (hB2.block _ hVlt).trans hT⟩)
  have N2 := hide (HNA.out.keep (w' := w2) (fun i hi _ => hB2.block i hi))
  have HC := hide hcell
  have hn : (S.files.map fun f => (f.num : Int)).length = S.files.length := by simp
  have hfew : S.files.length ≤ 1099511627776 := by have h1 := files_few H.out.ok; have h2 := H.out.ok.mad; omega
  have htop := hide (show ∀ g, wA.heap.size + 1 ≤ g → GV.τ g = 0 from fun g hg => HDA.out.top g (by omega))
  rw [hn] at hsc
  clear hrow hss hsl hS hb2 hB2 SO FP HDA HNA HVA HKA hcell a6 hVlt
  rw [hn]
  have Hn := hide hn
  clear hn
  go_wp2_with fail
  go_loopw [19] (fun u wr => ∃ (j : Nat) (x : Value), u = .int .i64 j ∧ j ≤ S.files.length ∧ Hid (DiskIs wr R { S with files := (crashAll (S.files.take j) ks).1 ++ S.files.drop j } GV) ∧ Hid (Kept GV GV w2 wr) ∧ Hid (Var1 wr w.heap.size x) ∧ Hid (NumV (fun i => GV.τ i = 0) wr x (crashAll (S.files.take j) ks).2)) (fun u _ => S.files.length - (intOf u).toNat)
  case atStart => exact ⟨0, _, rfl, by omega, hide (by simpa [crashAll] using D2.out), hide (Kept.refl _ _), V2, hide (by simpa [crashAll] using N2.out)⟩
  case round =>
    obtain ⟨j, x, rfl, hj, hD, hK, hV, hN⟩ := hrel
    by_cases hlt : j < S.files.length
    · obtain ⟨g, rfl, hg1, hg2, hgc⟩ := HC.out (by rw [Hn.out]; omega)
      have hjf : S.files[j]? = some S.files[j] := List.getElem?_eq_getElem hlt
      generalize hff : S.files[j] = f at hjf
      obtain ⟨hsplit, htake⟩ := pair_mid hjf
      have hcj := hgc j (by rw [Hn.out]; exact hlt)
      have hcj' : wr.cell? ⟨g, j, none⟩ = some (.int .i64 (f.num : Int)) := by
        rw [World.cell?_of_block (w := w2) (hK.out.block g hg2 (htop.out g (by omega))), hcj]
        simp [List.getElem?_map, hjf, List.getD]
      have hdrop : S.files.drop j = f :: S.files.drop (j + 1) := by rw [List.drop_eq_getElem_cons hlt, hff]
      rw [hdrop] at hD
      have hmem : f ∈ (crashAll (S.files.take j) ks).1 ++ f :: S.files.drop (j + 1) := List.mem_append_right _ List.mem_cons_self
      have hrise := hD.out.ok.rise
      have F := hD.out.files f hmem
      obtain ⟨fo, fc, hc, hO, hbk, hcm, hB⟩ := F.cells
      have hfo : ∀ x, fo = some x → x.spot = none := fun x hx => by
        obtain ⟨_, ⟨e, _⟩ | ⟨g', cap', cur, e, _⟩⟩ := hO
        · injection e with e1; rw [e1] at hx; cases hx
        · injection e with e1; rw [e1] at hx; cases hx; rfl
      have hbV : GV.β f.num ≠ w.heap.size := fun e => by have e1 := F.tag; have e2 := (hD.out.ok.nums f hmem).1; rw [e, HtV.out] at e1; omega
      have CF := hide (crash_file (GV.β f.num) w.heap.size (fun i => GV.τ i = 0) fo fc f x _ wr hc hB.2.1.1 hcm hB.2.1.2 hfo F.len F.lst hV.out hN.out hbV (by rw [F.tag]; omega) (by rw [HtV.out]; omega))
      have CT := hide (fun w' => crash_turn (w' := w') (ks := (crashAll (S.files.take j) ks).2) hD.out hmem HtV.out hO hbk)
      have UM := hide (upd_mid (g := fun f => crashF f (crashAll (S.files.take j) ks).2) hrise)
      obtain ⟨D, f1, f2, f3⟩ := hD.out.fm
      have hwf : (Lit.int .i64 (f.num : Int)).wf = true := WalkArith.wf_i64 (by have h1 := (hD.out.ok.nums f hmem).2; have h2 := hD.out.ok.mad; simp only at h1 h2; omega)
      have hlook := look_file GV rfl f1 f2 hwf
      rw [fileAt_of hrise hmem] at hlook
      simp only [ptrOf] at hlook
      have c6 := hD.out.cells.2.1.2.1
      have HT := hide htake
      clear hjf hff hsplit hcj hdrop hrise F hc hO hbk hcm hB hfo hgc f1 f2 f3 hwf htake
      go_wp2_with fail
      refine CF.out.mono ?_
      rintro e w4 ⟨rfl, p1, p2, p3, p4, v4, p5, p6⟩
      obtain ⟨D4, K4⟩ := CT.out w4 p1 p2 p3 p4
      have HR := hide (show DiskIs w4 R { S with files := (crashAll (S.files.take (j + 1)) ks).1 ++ S.files.drop (j + 1) } GV by
        rw [HT.out, crashAll_snoc]
        have := D4
        simp only [UM.out] at this
        simpa using this)
      have HN4 := hide (show NumV (fun i => GV.τ i = 0) w4 v4 (crashAll (S.files.take (j + 1)) ks).2 by rw [HT.out, crashAll_snoc]; exact p6)
      have HV4 := hide p5
      have HK4 := hide (hK.out.trans K4)
      clear p1 p2 p3 p4 p5 p6 D4 K4 CF CT UM hD hN hV hK
      go_wp2
      go_roundw
      case rel => exact ⟨j + 1, v4, by go_num, by omega, HR, HK4, HV4, HN4⟩
      case measure => simp [intOf]; omega
    · have hjj : j = S.files.length := by omega
      subst hjj
      rw [List.take_length, List.drop_length, List.append_nil] at hD
      rw [List.take_length] at hN
      have KS := hide (K2.out.trans hK.out)
      generalize hk1 : (crashAll S.files ks).2 = k1 at hN
      have Hk1 := hide hk1
      clear hk1 hK V2 N2 D2 K2 HC hj hlt hsc hfew htop Hn
      generalize hfs1 : (crashAll S.files ks).1 = fs1 at hD
      have Hfs1 := hide hfs1
      clear hfs1
      obtain ⟨so2, sc2, hsv, hsc2, hcell2⟩ := row_slice hD.out.sc
      simp only at hsv hsc2 hcell2
      have d9 := hD.out.cells.2.1.2.2.2.2
      rw [hsv] at d9
      have HC2 := hide hcell2
      have Hsv := hide hsv
      have hsn : S.since.length ≤ 1099511627776 := by have h1 := hD.out.ok.szl; simp only at h1; omega
      clear hcell2 hsv
      go_wp2_with fail
      generalize wr = wS at *
      go_loopw [36] (fun u w3 => ∃ (j : Nat) (y : Value), u = .int .i64 j ∧ j ≤ S.since.length ∧ Hid (Turn GV.τ (fun n => n = 4 ∨ n = 6) wS w3) ∧ Hid (w3.os = wS.os ∧ w3.tape = wS.tape ∧ w3.output = wS.output) ∧ Hid (w3.ownsMap Try.prog 9 (plainElem Try.prog 3) GV.bl (Maps.size (doAll (S.since.take j) S.lasting k1)) (doAll (S.since.take j) S.lasting k1)) ∧
        Hid (Maps.size (doAll (S.since.take j) S.lasting k1) ≤ Maps.size S.lasting + j) ∧ Hid (Var1 w3 w.heap.size y) ∧ Hid (NumV (fun i => GV.τ i = 0) w3 y (k1.drop j))) (fun u _ => S.since.length - (intOf u).toNat)
      case atStart => exact ⟨0, x, rfl, by omega, hide ⟨Nat.le_refl _, fun _ _ _ => rfl⟩, hide ⟨rfl, rfl, rfl⟩, hide hD.out.lm, hide (Nat.le_refl _), hV, hN⟩
      case round =>
        obtain ⟨j, y, rfl, hj, hT, hos, hL, hLz, hV3, hN3⟩ := hrel
        by_cases hlt2 : j < S.since.length
        · obtain ⟨g, rfl, hgc⟩ := HC2.out (by omega)
          obtain ⟨c, hc⟩ : ∃ c, S.since[j]? = some c := ⟨_, List.getElem?_eq_getElem hlt2⟩
          have htg : GV.τ g = 5 := hD.out.ts g (by rw [Hsv.out]; rfl)
          have hgl : g < wS.heap.size := World.block_lt_of_cell? wS ⟨g, j * 4 + 0, none⟩ (hgc (j * 4 + 0) _ (by rw [ch_at hc 0 (by omega)]; rfl))
          have hcell : ∀ i u, i < 4 → (chCells c)[i]? = some u → wr.cell? ⟨g, j * 4 + i, none⟩ = some u := fun i u hi hu => by
            rw [World.cell?_of_block (w := wS) (hT.out.2 g hgl (by rw [htg]; omega))]
            exact hgc _ u (by rw [ch_at hc i hi]; exact hu)
          have g0 : wr.cell? ⟨g, j * 4, none⟩ = some (.int .i64 c.kind) := hcell 0 _ (by omega) rfl
          have g1 : wr.cell? ⟨g, j * 4 + 1, none⟩ = some (.string c.name) := hcell 1 _ (by omega) rfl
          have g2 : wr.cell? ⟨g, j * 4 + 2, none⟩ = some (.string c.to) := hcell 2 _ (by omega) rfl
          have g3 : wr.cell? ⟨g, j * 4 + 3, none⟩ = some (.int .i64 c.file) := hcell 3 _ (by omega) rfl
          clear hcell hgc
          have htl : GV.τ GV.bl = 4 := hD.out.tl
          have hVl := hV3.out.lt
          have hneV : ∀ i, GV.τ i ≠ 6 → i ≠ w.heap.size := fun i hi e => hi (by rw [e]; exact HtV.out)
          have hbll := hL.out.lt
          have hc' := hD.out.ok.crea c (List.mem_of_getElem? hc)
          have hLs := hD.out.ok.szl
          simp only at hc' hLs
          have hfile : c.file ≤ 1099511627777 := by have h1 := hD.out.ok.mad; have h2 := hc'.2.2.2.2; simp only at h1; omega
          have hDo := hide (fun W (hW : W.ownsMap Try.prog 9 (plainElem Try.prog 3) GV.bl (Maps.size (doAll (S.since.take j) S.lasting k1)) (doAll (S.since.take j) S.lasting k1)) => do_any GV.bl _ c W hW (by have := hLz.out; omega) (by omega) (by omega) hc'.1 hfile)
          unfold chV at hDo
          have hRwr : wr.heap[R]? = _ := row_keep hT.out hD.out.row (by rw [hD.out.tR]; omega)
          have NXT := hide (next_any (fun i => GV.τ i = 0) w.heap.size y (k1.drop j) (wr.alloc (.cells #[.int .i64 c.kind, .string c.name, .string c.to, .int .i64 c.file] 65))
            (by obtain ⟨T, hT'⟩ := hV3.out; exact ⟨T, (Below.heap_alloc wr _ _ hVl).trans hT'⟩) (hN3.out.keep (fun i hi _ => Below.heap_alloc wr _ i hi)))
          go_wp2_with fail
          refine NXT.out.mono ?_
          rintro e w4 ⟨he, O1, y4, V4, N4⟩
          have HT4 := hide (step_turn hT.out HtV.out O1)
          have HO4 := hide (show w4.os = wS.os ∧ w4.tape = wS.tape ∧ w4.output = wS.output from ⟨O1.os.trans hos.out.1, O1.tape.trans hos.out.2.1, O1.output.trans hos.out.2.2⟩)
          have L4 := hide (show w4.ownsMap Try.prog 9 (plainElem Try.prog 3) GV.bl (Maps.size (doAll (S.since.take j) S.lasting k1)) (doAll (S.since.take j) S.lasting k1) by
            obtain ⟨es, clock, hh, r⟩ := hL.out.alloc (.cells #[.int .i64 c.kind, .string c.name, .string c.to, .int .i64 c.file] 65)
            exact ⟨es, clock, (O1.block _ (hneV _ (by rw [htl]; omega))).trans hh, r⟩)
          have x4 : w4.heap[wr.heap.size]? = some (.cells #[.int .i64 c.kind, .string c.name, .string c.to, .int .i64 c.file] 65 (0, 0)) := (O1.block _ (by omega)).trans (MapKept.heap_alloc wr _).1
          have r4 : w4.heap[R]? = _ := (O1.block R (hneV R (by rw [hD.out.tR]; omega))).trans ((Below.heap_alloc wr _ R (Array.getElem?_eq_some_iff.1 hRwr).1).trans hRwr)
          have q0 := cell_of (i := 0) x4 rfl
          have q1 := cell_of (i := 1) x4 rfl
          have q2 := cell_of (i := 2) x4 rfl
          have q3 := cell_of (i := 3) x4 rfl
          have c8 := cell_of (i := 8) r4 rfl
          simp [dRow] at q0 q1 q2 q3 c8
          have HN4 := hide N4
          clear O1 N4 x4 r4 NXT hRwr g0 g1 g2 g3
          cases hkj : k1.drop j with
          | nil =>
            rw [hkj] at he
            obtain rfl : e = .returned (.tuple #[.int .i64 0, .bool false]) := he
            have hEV : evenK (k1.drop j) = true := by rw [hkj]; rfl
            have DS := hide (show doAll (S.since.take (j + 1)) S.lasting k1 = doS (doAll (S.since.take j) S.lasting k1) c by
              rw [ch_take hc, doAll_snoc, show (S.since.take j).length = j from by rw [List.length_take]; omega, hEV, if_pos rfl])
            clear hEV
            go_wp2_with fail
            go_region_with (go_at_call 35; refine (hDo.out w4.drew L4.out).mono ?_; rintro e w5 ⟨rfl, g5, o5, z5⟩)
            all_goals
              have HT5 := hide (step_turn2 HT4.out htl g5)
              have HO5 := hide (show w5.os = wS.os ∧ w5.tape = wS.tape ∧ w5.output = wS.output from ⟨g5.os.trans HO4.out.1, g5.tape.trans HO4.out.2.1, g5.output.trans HO4.out.2.2⟩)
              have HV5 := hide (show Var1 w5 w.heap.size y4 by
                obtain ⟨T, hT'⟩ := V4
                exact ⟨T, (g5.block _ (Array.getElem?_eq_some_iff.1 hT').1 (fun e => by have e1 := HtV.out; rw [Option.some.inj e, htl] at e1; omega)).trans hT'⟩)
              have HN5 := hide (show NumV (fun i => GV.τ i = 0) w5 y4 (k1.drop (j + 1)) by
                rw [← List.tail_drop]
                exact HN4.out.keep (fun i hi hq => g5.block i hi (fun e => by rw [Option.some.inj e, htl] at hq; omega)))
              have HL5 := hide (show w5.ownsMap Try.prog 9 (plainElem Try.prog 3) GV.bl (Maps.size (doAll (S.since.take (j + 1)) S.lasting k1)) (doAll (S.since.take (j + 1)) S.lasting k1) by rw [DS.out]; exact o5)
              have HZ5 := hide (show Maps.size (doAll (S.since.take (j + 1)) S.lasting k1) ≤ Maps.size S.lasting + (j + 1) by rw [DS.out]; have := hLz.out; omega)
              clear g5 o5 z5
              go_wp2
              go_roundw
              case rel => exact ⟨j + 1, y4, by go_num, by omega, HT5, HO5, HL5, HZ5, HV5, HN5⟩
              case measure => simp [intOf]; omega
          | cons k r =>
            rw [hkj] at he
            obtain rfl : e = .returned (.tuple #[.int .i64 k, .bool true]) := he
            by_cases hev : (k.tmod 2 == 0) = true
            · have hEV : evenK (k1.drop j) = true := by rw [hkj]; exact hev
              have DS := hide (show doAll (S.since.take (j + 1)) S.lasting k1 = doS (doAll (S.since.take j) S.lasting k1) c by
                rw [ch_take hc, doAll_snoc, show (S.since.take j).length = j from by rw [List.length_take]; omega, hEV, if_pos rfl])
              clear hEV
              go_wp2_with fail
              go_region_with (go_at_call 35; refine (hDo.out w4.drew L4.out).mono ?_; rintro e w5 ⟨rfl, g5, o5, z5⟩)
              all_goals
                have HT5 := hide (step_turn2 HT4.out htl g5)
                have HO5 := hide (show w5.os = wS.os ∧ w5.tape = wS.tape ∧ w5.output = wS.output from ⟨g5.os.trans HO4.out.1, g5.tape.trans HO4.out.2.1, g5.output.trans HO4.out.2.2⟩)
                have HV5 := hide (show Var1 w5 w.heap.size y4 by
                  obtain ⟨T, hT'⟩ := V4
                  exact ⟨T, (g5.block _ (Array.getElem?_eq_some_iff.1 hT').1 (fun e => by have e1 := HtV.out; rw [Option.some.inj e, htl] at e1; omega)).trans hT'⟩)
                have HN5 := hide (show NumV (fun i => GV.τ i = 0) w5 y4 (k1.drop (j + 1)) by
                  rw [← List.tail_drop]
                  exact HN4.out.keep (fun i hi hq => g5.block i hi (fun e => by rw [Option.some.inj e, htl] at hq; omega)))
                have HL5 := hide (show w5.ownsMap Try.prog 9 (plainElem Try.prog 3) GV.bl (Maps.size (doAll (S.since.take (j + 1)) S.lasting k1)) (doAll (S.since.take (j + 1)) S.lasting k1) by rw [DS.out]; exact o5)
                have HZ5 := hide (show Maps.size (doAll (S.since.take (j + 1)) S.lasting k1) ≤ Maps.size S.lasting + (j + 1) by rw [DS.out]; have := hLz.out; omega)
                clear g5 o5 z5
                go_wp2
                go_roundw
                case rel => exact ⟨j + 1, y4, by go_num, by omega, HT5, HO5, HL5, HZ5, HV5, HN5⟩
                case measure => simp [intOf]; omega
            · rw [Bool.not_eq_true] at hev
              have hEV : evenK (k1.drop j) = false := by rw [hkj]; exact hev
              have DS := hide (show doAll (S.since.take (j + 1)) S.lasting k1 = doAll (S.since.take j) S.lasting k1 by
                rw [ch_take hc, doAll_snoc, show (S.since.take j).length = j from by rw [List.length_take]; omega, hEV, if_neg (by simp)])
              clear hEV
              have HN5 := hide (show NumV (fun i => GV.τ i = 0) w4 y4 (k1.drop (j + 1)) by rw [← List.tail_drop]; exact HN4.out)
              have HL5 := hide (show w4.ownsMap Try.prog 9 (plainElem Try.prog 3) GV.bl (Maps.size (doAll (S.since.take (j + 1)) S.lasting k1)) (doAll (S.since.take (j + 1)) S.lasting k1) by rw [DS.out]; exact L4.out)
              have HZ5 := hide (show Maps.size (doAll (S.since.take (j + 1)) S.lasting k1) ≤ Maps.size S.lasting + (j + 1) by rw [DS.out]; have := hLz.out; omega)
              have HV5 := hide V4
              go_wp2
              go_roundw
              case rel => exact ⟨j + 1, y4, by go_num, by omega, HT4, HO4, HL5, HZ5, HV5, HN5⟩
              case measure => simp [intOf]; omega
        · have hjj : j = S.since.length := by omega
          subst hjj
          rw [List.take_length] at hL hLz
          have hleads : Leads fs1 (doAll S.since S.lasting k1) := leads_all _ _ _ (by have := hD.out.ok.lasted; exact this) (fun c hc => (hD.out.ok.crea c hc).2.2.2.1)
          obtain ⟨G7, D7, K7⟩ := names_set hD.out hT.out hL.out (by have h1 := hLz.out; have h2 := hD.out.ok.szl; simp only at h2 ⊢; omega) hleads hos.out
          have hRwr : wr.heap[R]? = _ := row_keep hT.out hD.out.row (by rw [hD.out.tR]; omega)
          have c7 := cell_of (i := 7) hRwr rfl
          have c8 := cell_of (i := 8) hRwr rfl
          simp [dRow] at c7 c8
          have f7 := frozen_of_row wr R 7 _ _ hRwr
          have ST := hide (settle_any R _ G7 _ D7 hm)
          have HK7 := hide (KS.out.trans K7)
          clear D7 K7 hRwr hleads
          go_wp2_with fail
          refine ST.out.mono ?_
          rintro e w8 ⟨rfl, G8, D8, K8⟩
          have D9 := D8.put (S' := { settleS { S with files := fs1, names := doAll S.since S.lasting k1, lasting := doAll S.since S.lasting k1, since := [] } with stop := 0 }) 2 (.int .i64 0) rfl rfl rfl rfl rfl (Nat.le_refl _) (D8.ok.scal _ _ _ _ (Nat.le_refl _) (by omega) D8.ok.fai)
          have D10 := D9.put (S' := { settleS { S with files := fs1, names := doAll S.since S.lasting k1, lasting := doAll S.since S.lasting k1, since := [] } with stop := 0, fail := 0 }) 3 (.int .i64 0) rfl rfl rfl rfl rfl (Nat.le_refl _) (D8.ok.scal _ _ _ _ (Nat.le_refl _) (by omega) (by omega))
          have D11 := D10.put (S' := { settleS { S with files := fs1, names := doAll S.since S.lasting k1, lasting := doAll S.since S.lasting k1, since := [] } with stop := 0, fail := 0, dead := false }) 4 (.bool false) rfl rfl rfl rfl rfl (Nat.le_refl _) (D8.ok.scal _ _ _ _ (Nat.le_refl _) (by omega) (by omega))
          have K11 := ((K8.trans (kept_set (G := G8) (b := R) 2 (.int .i64 0) (by rw [D8.tR]; omega))).trans (kept_set (G := G8) (b := R) 3 (.int .i64 0) (by rw [D8.tR]; omega))).trans (kept_set (G := G8) (b := R) 4 (.bool false) (by rw [D8.tR]; omega))
          have e2 := D8.cells.1.2.2.1
          have e3 := D8.cells.1.2.2.2.1
          have e4 := D8.cells.1.2.2.2.2
          have v2 := D8.cells.2.2 2
          have v3 := D8.cells.2.2 3
          have v4 := D8.cells.2.2 4
          have HD11 := hide D11
          have HK11 := hide K11
          clear D8 D9 D10 D11 K8 K11 ST c7 c8 f7
          go_wp2
          go_end0
          refine ⟨rfl, G8, ?_, HK7.out.trans HK11.out⟩
          have hcs : crashS S ks = { settleS { S with files := fs1, names := doAll S.since S.lasting k1, lasting := doAll S.since S.lasting k1, since := [] } with stop := 0, fail := 0, dead := false } := by
            unfold crashS; rw [Hfs1.out, Hk1.out]
          rw [hcs]
          exact HD11.out

end Go.Proofs.Ythmfkfiblaamfab.Clep
