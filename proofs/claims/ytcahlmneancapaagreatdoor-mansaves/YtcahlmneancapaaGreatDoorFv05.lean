/- What begin of a Disk does when called (a walk over the translated program): for any Disk of at most 2^40 calls, any names of at most 2^46 bytes. -/
import Derived.Test.YtcahlmneancapaaGreatDoorFv04
import Derived.Deep.RegionHeldLaw
import Derived.Deep.RegionLaw
import Derived.Deep.AppendLies
import Derived.BigRegion
namespace Go.Proofs.YtcahlmneancapaaGreatDoor.Clep
open Go.RowKit Go.Maps
set_option linter.unusedVariables false
set_option maxRecDepth 10000

theorem DiskIs.put {w : World} {R : Nat} {S S' : St} {G : Gh} (h : DiskIs w R S G) (i : Nat) (v : Value) (e : (dRow S G).setIfInBounds i v = dRow S' G)
    (e1 : S'.files = S.files) (e2 : S'.names = S.names) (e3 : S'.lasting = S.lasting) (e4 : S'.since = S.since) (e5 : S.calls ≤ S'.calls) (ok : Ok S') : DiskIs (w.setCell ⟨R, i, none⟩ v) R S' G :=
  h.set (by rw [heap_setCell_same w R i _ _ v h.row, e]) (turn_set v h.tR) (by simp) e1 e2 e3 e4 e5 ok
theorem kept_set {G : Gh} {w : World} {b : Nat} (i : Nat) (v : Value) (h : G.τ b ≠ 0) : Kept G G w (w.setCell ⟨b, i, none⟩ v) :=
  ⟨rfl, rfl, rfl, by simp, fun k _ hk => heap_setCell_other w ⟨b, i, none⟩ k v (fun e => h (by rw [← show k = b from e]; exact hk)), fun _ _ h => h⟩

def beginS (S : St) : Nat × St :=
  if S.dead then (50, { S with calls := S.calls + 1 })
  else (if S.fail = 1 then 15 else 0, { S with calls := S.calls + 1, stop := S.stop - 1, dead := decide (S.stop = 1), fail := S.fail - 1 })
/-- Texts that a slice value leads to. -/
def Txts (w : World) (ao : Option Addr) (ns : List ByteArray) : Prop := ∀ i, i < ns.length → ∃ b off, ao = some ⟨b, off, none⟩ ∧ w.cell? ⟨b, off + i, none⟩ = some (.string (ns.getD i ByteArray.empty))

theorem last_disk (R o n : Nat) (S S' : St) (G : Gh) (w : World) (h : DiskIs w R S G) (h0 : w.cell? ⟨R, o, none⟩ = some (.int .i64 n)) (hn : n ≤ 9223372036854775807) (e : (dRow S G).setIfInBounds o (.int .i64 ((n - 1 : Nat) : Int)) = dRow S' G)
    (e1 : S'.files = S.files) (e2 : S'.names = S.names) (e3 : S'.lasting = S.lasting) (e4 : S'.since = S.since) (e5 : S.calls ≤ S'.calls) (ok : Ok S') (es : n = 0 → S' = S) :
    Calls Tryz.prog 93 #[.pointer (some ⟨R, o, none⟩)] w fun e w' => e = .returned (.bool (decide (n = 1))) ∧ DiskIs w' R S' G ∧ Kept G G w w' := by
  refine (last_any R o n w h0 (h.cells.2.2 o) hn).mono ?_
  rintro e' w' ⟨rfl, ⟨rfl, hz0⟩ | ⟨rfl, _⟩⟩
  · exact ⟨rfl, by rw [es hz0]; exact h, Kept.refl _ _⟩
  · exact ⟨rfl, h.put o _ e e1 e2 e3 e4 e5 ok, kept_set _ _ (by rw [h.tR]; omega)⟩
theorem Ok.scal {S : St} (h : Ok S) (c st fa : Nat) (d : Bool) (hc : S.calls ≤ c) (h1 : st ≤ 9223372036854775807) (h2 : fa ≤ 9223372036854775807) : Ok { S with calls := c, stop := st, fail := fa, dead := d } := by
  obtain ⟨a1, a2, a3, a4, a5, a6, a7, a8, a9, a10, a11⟩ := h
  exact ⟨a1, a2, a3, a4, a5, Nat.le_trans a6 hc, Nat.le_trans a7 hc, Nat.le_trans a8 hc, a9, h1, h2⟩

set_option maxHeartbeats 400000 in
theorem begin_any (R : Nat) (S : St) (G : Gh) (ao : Option Addr) (ns : List ByteArray) (w : World) (h : DiskIs w R S G) (hm : S.calls ≤ 1099511627776) (hl : ns.length ≤ 1000) (hn : Txts w ao ns) (hs : ∀ s ∈ ns, s.size ≤ 70368744177664) :
    Calls Tryz.prog 50 #[.pointer (some ⟨R, 0, none⟩), .slice ao ns.length ns.length] w fun e w' =>
      (ns.all okName = false ∧ e = .returned (.int .i64 10) ∧ w' = w) ∨
      (ns.all okName = true ∧ e = .returned (.int .i64 (beginS S).1) ∧ DiskIs w' R (beginS S).2 G ∧ Kept G G w w') := by
  have H := hide h
  have HN := hide hn
  have HS := hide hs
  clear h hn hs
  go_enter Tryz.func50, Tryz.ntmps50
  go_wp2
  go_loop [9] (fun i => ∃ k : Nat, k ≤ ns.length ∧ i = .int .i64 k ∧ Hid (∀ j, j < k → okName (ns.getD j ByteArray.empty) = true)) (fun i => ns.length - (intOf i).toNat)
  case atStart => exact ⟨0, by omega, rfl, hide (fun j hj => by omega)⟩
  case round =>
    obtain ⟨k, hk, rfl, hT⟩ := hrel
    by_cases hlk : k < ns.length
    · obtain ⟨b, off, rfl, hc⟩ := HN.out k hlk
      have hmem : ns.getD k ByteArray.empty ∈ ns := by
        rw [List.getD_eq_getElem?_getD, List.getElem?_eq_getElem hlk]; exact List.getElem_mem hlk
      have hz := HS.out _ hmem
      have HT := hide (show okName (ns.getD k ByteArray.empty) = true → ∀ j, j < k + 1 → okName (ns.getD j ByteArray.empty) = true from fun ho j hj => by
        rcases Nat.lt_or_ge j k with h1 | h1
        · exact hT.out j h1
        · obtain rfl : j = k := by omega
          exact ho)
      have HF := hide (show okName (ns.getD k ByteArray.empty) = false → ns.all okName = false from fun ho => by
        rw [List.all_eq_false]; exact ⟨_, hmem, by rw [ho]; simp⟩)
      clear hT hmem
      generalize ns.getD k ByteArray.empty = s at *
      go_wp2_with fail
      refine (isName_any s w hz).mono ?_
      rintro e w1 ⟨rfl, rfl⟩
      cases ho : okName s
      · have hF := hide (HF.out ho)
        clear HF HT ho
        go_wp2
        go_ret
        exact .inl ⟨hF.out, rfl, rfl⟩
      · have hG := hide (HT.out ho)
        clear HF HT ho
        go_wp2
        go_round
        case rel => exact ⟨k + 1, by omega, by go_num, hG⟩
        case measure => simp [intOf]; omega
    · have h8 : k = ns.length := by omega
      subst h8
      have hall : ns.all okName = true := by
        rw [List.all_eq_true]
        intro s hs
        obtain ⟨j, hj, rfl⟩ := List.getElem_of_mem hs
        have := hT.out j hj
        rwa [List.getD_eq_getElem?_getD, List.getElem?_eq_getElem hj] at this
      have HA := hide hall
      clear hall hT
      obtain ⟨⟨c0, c1, c2, c3, c4⟩, ⟨c5, c6, c7, c8, c9⟩, fr⟩ := H.out.cells
      have hadd := add_at R 1 S.calls w c1 (fr 1) (by omega)
      have D1 := H.out.put (S' := { S with calls := S.calls + 1 }) 1 (.int .i64 (S.calls + 1)) rfl rfl rfl rfl rfl (by simp) (H.out.ok.scal _ _ _ _ (by simp) H.out.ok.stp H.out.ok.fai)
      have K1 := kept_set (G := G) (w := w) (b := R) 1 (.int .i64 (S.calls + 1)) (by rw [H.out.tR]; omega)
      have ADD := hide hadd
      clear hadd c0 c1 c2 c3 c4 c5 c6 c7 c8 c9 fr
      have e4 := D1.cells.1.2.2.2.2
      generalize hw1 : w.setCell ⟨R, 1, none⟩ (.int .i64 (S.calls + 1)) = w1 at *
      clear hw1
      have HD1 := hide D1
      have HK1 := hide K1
      clear D1 K1
      go_wp2_with fail
      refine ADD.out.mono ?_
      rintro e w1' ⟨rfl, rfl⟩
      clear ADD
      by_cases hd : S.dead = true
      · have hb : beginS S = (50, { S with calls := S.calls + 1 }) := by unfold beginS; rw [if_pos hd]
        rw [hd] at e4
        have HBg := hide hb
        clear hb
        go_wp2
        go_ret
        exact .inr ⟨HA.out, by rw [HBg.out]; rfl, by rw [HBg.out]; exact HD1.out, HK1.out⟩
      · rw [Bool.not_eq_true] at hd
        have hb : beginS S = (if S.fail = 1 then 15 else 0, { S with calls := S.calls + 1, stop := S.stop - 1, dead := decide (S.stop = 1), fail := S.fail - 1 }) := by unfold beginS; rw [if_neg (by rw [hd]; simp)]
        have HBg := hide hb
        have hst := H.out.ok.stp
        have hfa := H.out.ok.fai
        have L1 := last_disk R 2 S.stop _ { S with calls := S.calls + 1, stop := S.stop - 1 } G w1' HD1.out HD1.out.cells.1.2.2.1 hst rfl rfl rfl rfl rfl (by simp) (H.out.ok.scal _ _ _ _ (by simp) (by omega) hfa)
          (fun h0 => by simp only [h0])
        have HL1 := hide L1
        rw [show ({ S with calls := S.calls + 1 } : St).dead = false from hd] at e4
        clear hb L1
        go_wp2_with fail
        refine HL1.out.mono ?_
        rintro e w2 ⟨rfl, D2, K2⟩
        have D3 := D2.put (S' := { S with calls := S.calls + 1, stop := S.stop - 1, dead := decide (S.stop = 1) }) 4 (.bool (decide (S.stop = 1))) rfl rfl rfl rfl rfl (by simp) (H.out.ok.scal _ _ _ _ (by simp) (by omega) hfa)
        have K3 := kept_set (G := G) (w := w2) (b := R) 4 (.bool (decide (S.stop = 1))) (by rw [H.out.tR]; omega)
        have c4 := D2.cells.1.2.2.2.2
        have f4 := D2.cells.2.2 4
        have HD3 := hide D3
        have HK3 := hide (HK1.out.trans (K2.trans K3))
        clear D3 K3 K2 D2 HL1 e4
        go_wp2_with fail
        generalize w2.setCell ⟨R, 4, none⟩ (.bool (decide (S.stop = 1))) = w3 at *
        refine (last_disk R 3 S.fail _ { S with calls := S.calls + 1, stop := S.stop - 1, dead := decide (S.stop = 1), fail := S.fail - 1 } G w3 HD3.out HD3.out.cells.1.2.2.2.1 hfa rfl rfl rfl rfl rfl (by simp) (H.out.ok.scal _ _ _ _ (by simp) (by omega) (by omega)) (fun h0 => by simp only [h0])).mono ?_
        rintro e w4 ⟨rfl, D4, K4⟩
        have HD4 := hide D4
        have HK4 := hide (HK3.out.trans K4)
        clear D4 K4 HK3 HD3 c4 f4
        by_cases hf : S.fail = 1
        · have df : decide (S.fail = 1) = true := decide_eq_true hf
          rw [df]
          go_wp2
          go_ret
          exact .inr ⟨HA.out, by rw [HBg.out, if_pos hf]; rfl, by rw [HBg.out]; exact HD4.out, HK4.out⟩
        · have df : decide (S.fail = 1) = false := decide_eq_false hf
          rw [df]
          go_wp2
          go_ret
          exact .inr ⟨HA.out, by rw [HBg.out, if_neg hf]; rfl, by rw [HBg.out]; exact HD4.out, HK4.out⟩

end Go.Proofs.YtcahlmneancapaaGreatDoor.Clep

/- What strings.Clone and names.do do when called (walks over the translated program): for any text, any change of names. -/
namespace Go.Proofs.YtcahlmneancapaaGreatDoor.Clep
open Go.RowKit Go.Maps
set_option linter.unusedVariables false
set_option maxRecDepth 10000

theorem strClone_any (s : ByteArray) (w : World) (hs : s.size ≤ 70368744177664) :
    Calls Tryz.prog 47 #[.string s] w fun e w' => e = .returned (.string s) ∧ Below w.heap.size w w' := by
  have c := Any.stringslite_Clone Tryz.strCloneA s w (by omega)
  change Calls Tryz.prog 91 _ _ _ at c
  go_enter Tryz.func47, Tryz.ntmps47
  go_wp2_with fail
  refine c.mono ?_
  rintro e w' ⟨rfl, hb⟩
  go_wp2
  go_ret
  exact ⟨rfl, hb⟩

def chV (c : Chn) : Value := .agg #[.int .i64 c.kind, .string c.name, .string c.to, .int .i64 c.file]
theorem grown_cell {w w' : World} {row : Option Nat} (hg : w.grownBy w' row) {p : Addr} (hb : p.block < w.heap.size) (hne : some p.block ≠ row) : w'.cell? p = w.cell? p := World.cell?_of_block (hg.block p.block hb hne)
theorem grown_frozen {w w' : World} {row : Option Nat} (hg : w.grownBy w' row) {p : Addr} (hb : p.block < w.heap.size) (hne : some p.block ≠ row) : w'.frozen? p = w.frozen? p := World.frozen?_of_block (hg.block p.block hb hne)
set_option maxRecDepth 4000 in
set_option maxHeartbeats 400000 in
theorem do_any (b : Nat) (D : DataW Unit) (c : Chn) (w : World) (h : w.ownsMap Tryz.prog 9 (plainElem Tryz.prog 3) b (Maps.size D) D) (hz : Maps.size D + 1 ≤ 1099511627777) (h1 : c.name.size ≤ 70368744177664) (h2 : c.to.size ≤ 70368744177664) (h3 : c.kind ≤ 2) (h4 : c.file ≤ 1099511627777) :
    Calls Tryz.prog 63 #[.map (some b), chV c] w fun e w' => e = .returned (.tuple #[]) ∧ w.grownBy w' (some b) ∧ w'.ownsMap Tryz.prog 9 (plainElem Tryz.prog 3) b (Maps.size (doS D c)) (doS D c) ∧ Maps.size (doS D c) ≤ Maps.size D + 1 := by
  have HO := hide h
  have ga := World.grownBy_alloc w (.cells #[.int .i64 c.kind, .string c.name, .string c.to, .int .i64 c.file] 113) (some b)
  have HA := hide (h.alloc (.cells #[.int .i64 c.kind, .string c.name, .string c.to, .int .i64 c.file] 113))
  have k1 := hide (key_str h1)
  have k2 := hide (key_str h2)
  have HG := hide ga
  have hdo : ∀ k, c.kind = k → doS D c = doS D { c with kind := k } := fun k hk => by rw [← hk]
  clear ga h
  obtain ⟨kind, name, to, file⟩ := c
  unfold chV
  simp only at *
  have hT := hide (HO.out.tidy lawS)
  rcases (show kind = 0 ∨ kind = 1 ∨ kind = 2 by omega) with rfl | rfl | rfl
  · go_enter Tryz.func63, Tryz.ntmps63
    go_wp2_with (first
      | (at_mapUpdate; refine wpList_mapUpdate_own _ rfl _ _ _ 70 rfl 9 3 lawS Tryz.underlying70 _ b _ _ rfl HA.out (by unfold maxLen; omega) _ _ _ rfl rfl k1.out (i64L file) [] (plainElem_int Tryz.underlying3 (WalkArith.wf_i64 (by omega))) ?_; intro w1 o1 g1)
      | go_in)
    go_end0
    have hs := Maps.size_put hT.out (k := key name) (i64L file)
    exact ⟨rfl, HG.out.trans g1, tight o1, by show Maps.size (D.put (key name) (i64L file)) ≤ _; split at hs <;> omega⟩
  · by_cases hh : Maps.has D (key name) = true
    · have hq := hide (show ∀ w1 : World, (w.alloc (.cells #[.int .i64 1, .string name, .string to, .int .i64 file] 113)).grownBy w1 (some b) → w1.cell? ⟨w.heap.size, 2, none⟩ = some (.string to) from fun w1 g1 => by
        rw [grown_cell g1 (by simp) (by have := HO.out.lt; simp; omega)]
        simp [go_sem])
      go_enter Tryz.func63, Tryz.ntmps63
      go_wp2_with (first
        | (at_lookup; refine wpList_lookup_own_ok_int _ rfl _ _ 70 rfl 9 3 .i64 lawS Tryz.underlying70 Tryz.underlying3 (zeroI _) b _ _ rfl HA.out _ _ rfl k1.out ?_; intro c hat hwc)
        | (at_delete; refine wpList_delete_own _ rfl _ _ 70 9 rfl 3 lawS Tryz.underlying70 _ b _ _ rfl HA.out _ _ rfl k1.out ?_; intro w1 o1 t1; have q2 := hq.out w1 t1.grown)
        | (at_mapUpdate; refine wpList_mapUpdate_own _ rfl _ _ _ 70 rfl 9 3 lawS Tryz.underlying70 _ b _ _ rfl o1 (by unfold maxLen; omega) _ _ _ rfl rfl k2.out (i64L c) [] (plainElem_int Tryz.underlying3 hwc) ?_; intro w2 o2 g2)
        | go_in)
      go_end0
      have e : doS D ⟨1, name, to, file⟩ = (D.del (key name)).put (key to) (i64L c) := by unfold doS lk; rw [if_neg (by simp), if_pos rfl, if_pos hh, show i64L 0 = .lit (.int .i64 0) from rfl, hat]; rfl
      have hs := Maps.size_put (hT.out.del (key name)) (k := key to) (i64L c)
      have hs2 := Maps.size_del hT.out (k := key name)
      rw [e]
      exact ⟨rfl, HG.out.trans (t1.grown.trans g2), tight o2, by split at hs <;> split at hs2 <;> omega⟩
    · rw [Bool.not_eq_true] at hh
      go_enter Tryz.func63, Tryz.ntmps63
      go_wp2_with (first
        | (at_lookup; refine wpList_lookup_own_ok_int _ rfl _ _ 70 rfl 9 3 .i64 lawS Tryz.underlying70 Tryz.underlying3 (zeroI _) b _ _ rfl HA.out _ _ rfl k1.out ?_; intro c hat hwc)
        | go_in)
      go_end0
      have e : doS D ⟨1, name, to, file⟩ = D := by unfold doS; rw [if_neg (by simp), if_pos rfl, if_neg (by rw [hh]; simp)]
      rw [e]
      exact ⟨rfl, HG.out, HA.out, by omega⟩
  · go_enter Tryz.func63, Tryz.ntmps63
    go_wp2_with (first
      | (at_delete; refine wpList_delete_own _ rfl _ _ 70 9 rfl 3 lawS Tryz.underlying70 _ b _ _ rfl HA.out _ _ rfl k1.out ?_; intro w1 o1 t1)
      | go_in)
    go_end0
    have e : doS D ⟨2, name, to, file⟩ = D.del (key name) := by simp [doS]
    have hs2 := Maps.size_del hT.out (k := key name)
    rw [e]
    exact ⟨rfl, HG.out.trans t1.grown, tight o1, by split at hs2 <;> omega⟩

end Go.Proofs.YtcahlmneancapaaGreatDoor.Clep

/- What change of a Disk does when called (a walk over the translated program): for any Disk of at most 2^40 calls, any change of names of at most 16 bytes. -/
namespace Go.Proofs.YtcahlmneancapaaGreatDoor.Clep
open Go.RowKit Go.Maps
set_option linter.unusedVariables false
set_option maxRecDepth 10000

def Boxed (w : World) (c : Chn) (W : World) : Prop := Below w.heap.size w W ∧ W.heap[w.heap.size]? = some (.cells #[.int .i64 c.kind, .string c.name, .string c.to, .int .i64 c.file] 113 (0, 0))
theorem boxed_new (w : World) (c : Chn) : Boxed w c (w.alloc (.cells #[.int .i64 c.kind, .string c.name, .string c.to, .int .i64 c.file] 113)) :=
  ⟨(Below.refl _ w).alloc (Nat.le_refl _) _, (MapKept.heap_alloc w _).1⟩
theorem Boxed.lt {w W : World} {c : Chn} (h : Boxed w c W) : w.heap.size < W.heap.size := (Array.getElem?_eq_some_iff.1 h.2).1
theorem Boxed.below {w W W' : World} {c : Chn} (h : Boxed w c W) (hb : Below W.heap.size W W') : Boxed w c W' := ⟨h.1.trans (hb.mono h.1.size), by rw [hb.block _ h.lt]; exact h.2⟩
theorem Boxed.drew {w W : World} {c : Chn} (h : Boxed w c W) : Boxed w c W.drew := ⟨h.1.drew, h.2⟩
theorem Boxed.set1 {w W : World} {c : Chn} (h : Boxed w c W) : Boxed w c (W.setCell ⟨w.heap.size, 1, none⟩ (.string c.name)) := ⟨h.1.setCell (Nat.le_refl _) _, by rw [heap_setCell_same W _ 1 _ _ _ h.2]; rfl⟩
theorem Boxed.set2 {w W : World} {c : Chn} (h : Boxed w c W) : Boxed w c (W.setCell ⟨w.heap.size, 2, none⟩ (.string c.to)) := ⟨h.1.setCell (Nat.le_refl _) _, by rw [heap_setCell_same W _ 2 _ _ _ h.2]; rfl⟩
theorem Boxed.full {w W : World} {c : Chn} (h : Boxed w c W) : Boxed w c W ∧ W.cell? ⟨w.heap.size, 1, none⟩ = some (.string c.name) ∧ W.cell? ⟨w.heap.size, 2, none⟩ = some (.string c.to) ∧ W.frozen? ⟨w.heap.size, 1, none⟩ = false ∧ W.frozen? ⟨w.heap.size, 2, none⟩ = false :=
  ⟨h, cell_of h.2 rfl, cell_of h.2 rfl, frozen_of_row W _ _ _ _ h.2, frozen_of_row W _ _ _ _ h.2⟩
theorem Boxed.cells {w W : World} {c : Chn} (h : Boxed w c W) : W.cell? ⟨w.heap.size, 0, none⟩ = some (.int .i64 c.kind) ∧ W.cell? ⟨w.heap.size, 1, none⟩ = some (.string c.name) ∧ W.cell? ⟨w.heap.size, 2, none⟩ = some (.string c.to) ∧ W.cell? ⟨w.heap.size, 3, none⟩ = some (.int .i64 c.file) :=
  ⟨cell_of h.2 rfl, cell_of h.2 rfl, cell_of h.2 rfl, cell_of h.2 rfl⟩

theorem infoC : (Tryz.prog.info? 113).map (fun i => (i.zero, i.size, i.bytes)) = some (some (.agg #[.int .i64 0, .string ⟨#[]⟩, .string ⟨#[]⟩, .int .i64 0]), 4, 48) := by kernel_rfl
theorem ch_one (c : Chn) : ∀ u ∈ chCells c, u.oneCell' = true := by
  intro u hu
  simp only [chCells, List.mem_cons, List.not_mem_nil, or_false] at hu
  rcases hu with rfl | rfl | rfl | rfl <;> rfl
theorem ch_cells (w : World) (c : Chn) : ∀ j u, (chCells c)[j]? = some u → (w.alloc (.cells #[.int .i64 c.kind, .string c.name, .string c.to, .int .i64 c.file] 113)).cell? ((⟨w.heap.size, 0, none⟩ : Addr).add j) = some u := by
  intro j u hu
  rw [add_plain, Nat.zero_add]
  exact cell_of (MapKept.heap_alloc w _).1 (by simpa [chCells] using hu)

theorem FileIs.retag {w : World} {G G' : Gh} {f : Fl} (h : FileIs w G f) (hb : G'.β f.num = G.β f.num) (ht : ∀ i, 6 ≤ G.τ i → G'.τ i = G.τ i) : FileIs w G' f := by
  obtain ⟨v, h1, h2, h3⟩ := h.lies
  exact ⟨⟨v, by rw [hb]; exact h1, h2, fun g hg => by rw [ht g (by rw [h3 g hg]; omega)]; exact h3 g hg⟩, by rw [hb, ht _ (by rw [h.tag]; omega)]; exact h.tag, h.rng, h.len, h.lst⟩
theorem change_end {R : Nat} {S : St} {G : Gh} {c : Chn} {w w4 : World} {g cap : Nat} (h : DiskIs w R S G) (ok : Ok { S with names := doS S.names c, since := S.since ++ [c] })
    (T : Turn G.τ (fun n => n = 1 ∨ n = 3 ∨ n = 5) w w4) (hos : w4.os = w.os ∧ w4.tape = w.tape ∧ w4.output = w.output)
    (row : w4.heap[R]? = some (.cells ((dRow S G).setIfInBounds 9 (.slice (some ⟨g, 0, none⟩) (S.since.length + 1) cap)) 78 (0, 0)))
    (nm : w4.ownsMap Tryz.prog 9 (plainElem Tryz.prog 3) G.bn (Maps.size (doS S.names c)) (doS S.names c))
    (sc : w4.ownsRow 0 113 4 (.slice (some ⟨g, 0, none⟩) (S.since.length + 1) cap) (S.since.length + 1) (S.since.flatMap chCells ++ chCells c))
    (hg : G.τ g = 5 ∨ w.heap.size ≤ g) : ∃ G', DiskIs w4 R { S with names := doS S.names c, since := S.since ++ [c] } G' ∧ Kept G G' w w4 := by
  have hgl : g < w4.heap.size := (World.ownsRow.lt sc g rfl).2
  have hg' : G.τ g = 5 ∨ G.τ g = 0 := hg.imp id (fun h' => h.top g h')
  have ht : ∀ i, G.τ i ≠ 0 → G.τ i ≠ 5 → (fun i => if i = g then 5 else G.τ i) i = G.τ i := fun i h0 h5 => by
    show (if i = g then 5 else G.τ i) = _
    rw [if_neg]
    rintro rfl
    rcases hg' with e | e <;> omega
  obtain ⟨D, f1, f2, f3⟩ := h.fm
  refine ⟨{ G with sv := .slice (some ⟨g, 0, none⟩) (S.since.length + 1) cap, τ := fun i => if i = g then 5 else G.τ i }, ⟨row, ⟨D, map_keep T f1 (by rw [h.tf]; omega), f2, f3⟩, nm, map_keep T h.lm (by rw [h.tl]; omega), ?_, ?_, ?_, ?_, ?_, ?_, ?_, ?_, ok⟩, ?_⟩
  · simpa using sc
  · intro f hf
    refine (file_keep T (h.files f hf) (by omega) (by omega)).retag rfl fun i hi => ht i (by omega) (by omega)
  · exact (ht R (by rw [h.tR]; omega) (by rw [h.tR]; omega)).trans h.tR
  · exact (ht _ (by rw [h.tf]; omega) (by rw [h.tf]; omega)).trans h.tf
  · exact (ht _ (by rw [h.tn]; omega) (by rw [h.tn]; omega)).trans h.tn
  · exact (ht _ (by rw [h.tl]; omega) (by rw [h.tl]; omega)).trans h.tl
  · intro g' hg'
    obtain rfl : g = g' := by simpa [Value.ownBlock] using hg'
    exact if_pos rfl
  · intro i hi
    show (if i = g then 5 else G.τ i) = 0
    rw [if_neg (by omega)]
    exact h.top i (Nat.le_trans T.1 hi)
  · refine ⟨hos.1, hos.2.1, hos.2.2, T.1, fun i hi h0 => T.2 i hi (by rw [h0]; omega), fun i hi h0 => ?_⟩
    show (if i = g then 5 else G.τ i) = 0
    rw [if_neg]
    · exact h0
    · rintro rfl
      rcases hg with e | e <;> omega

theorem change_fin {R : Nat} {S : St} {G : Gh} {c : Chn} {w w2 w3 : World} {g cap : Nat} (o : Obj) (h : DiskIs w R S G) (ok : Ok { S with names := doS S.names c, since := S.since ++ [c] })
    (T : Turn G.τ (fun n => n = 3) w w2) (hos : w2.os = w.os ∧ w2.tape = w.tape ∧ w2.output = w.output)
    (nm : w2.ownsMap Tryz.prog 9 (plainElem Tryz.prog 3) G.bn (Maps.size (doS S.names c)) (doS S.names c))
    (g3 : ((w2.alloc o).drew).grownBy w3 G.sv.ownBlock) (row : w3.heap[R]? = some (.cells (dRow S G) 78 (0, 0)))
    (sc : w3.ownsRow 0 113 4 (.slice (some ⟨g, 0, none⟩) (S.since.length + 1) cap) (S.since.length + 1) (S.since.flatMap chCells ++ chCells c))
    (hg : G.sv.ownBlock = some g ∨ g = w2.heap.size + 1) :
    ∃ G', DiskIs (w3.setCell ⟨R, 9, none⟩ (.slice (some ⟨g, 0, none⟩) (S.since.length + 1) cap)) R { S with names := doS S.names c, since := S.since ++ [c] } G' ∧ Kept G G' w (w3.setCell ⟨R, 9, none⟩ (.slice (some ⟨g, 0, none⟩) (S.since.length + 1) cap)) := by
  have hR := h.lt
  have hT := T.1
  have hne : ∀ i, G.τ i ≠ 5 → some i ≠ G.sv.ownBlock := fun i hi e => hi (h.ts i e.symm)
  have hgR : g ≠ R := by
    rintro rfl
    rcases hg with e | e
    · have := h.ts _ e; have := h.tR; omega
    · omega
  have hs3 : w2.heap.size + 1 ≤ w3.heap.size := by have := g3.size; simpa using this
  refine change_end (g := g) (cap := cap) h ok ⟨by simp; omega, fun i hi ht => ?_⟩ ⟨g3.os.trans hos.1, g3.tape.trans hos.2.1, g3.output.trans hos.2.2⟩ (heap_setCell_same w3 R 9 _ _ _ row)
    (((nm.alloc o).drew.kept g3 (hne _ (by rw [h.tn]; omega))).setCell (fun e => by have e1 := h.tn; have e2 := h.tR; rw [show G.bn = R from e] at e1; omega) _)
    (owns_keep (τ := id) (t := fun n => n = R) ⟨by simp, fun i _ hi => heap_setCell_other w3 ⟨R, 9, none⟩ i _ hi⟩ sc (fun g' hg' => by
      obtain rfl : g = g' := by simpa [Value.ownBlock] using hg'
      exact hgR))
    (hg.imp (fun e => h.ts g e) (fun e => by omega))
  rw [heap_setCell_other w3 ⟨R, 9, none⟩ i _ (fun e => ht (by rw [show i = R from e]; exact .inl h.tR)), g3.block i (by simp; omega) (hne i (fun e => ht (.inr (.inr e))))]
  exact (Below.heap_alloc w2 o i (by omega)).trans (T.2 i hi (fun e => ht (.inr (.inl e))))

set_option maxHeartbeats 400000 in
set_option maxRecDepth 4000 in
theorem change_any (R : Nat) (S : St) (G : Gh) (c : Chn) (w : World) (h : DiskIs w R S G) (hm : S.calls ≤ 1099511627776) (h1 : c.name.size ≤ 16) (h2 : c.to.size ≤ 16) (h3 : c.kind ≤ 2) (h4 : c.file ≤ 1099511627777)
    (ok : Ok { S with names := doS S.names c, since := S.since ++ [c] }) :
    Calls Tryz.prog 51 #[.pointer (some ⟨R, 0, none⟩), chV c] w fun e w' => e = .returned (.tuple #[]) ∧ ∃ G', DiskIs w' R { S with names := doS S.names c, since := S.since ++ [c] } G' ∧ Kept G G' w w' := by
  have H := hide h
  have OK := hide ok
  have BX := (boxed_new w c).full
  have hC1 := hide (fun W => strClone_any c.name W (by omega))
  have hC2 := hide (fun W => strClone_any c.to W (by omega))
  clear h ok
  unfold chV
  go_enter Tryz.func51, Tryz.ntmps51
  go_wp2_with fail
  generalize w.alloc (.cells #[.int .i64 c.kind, .string c.name, .string c.to, .int .i64 c.file] 113) = wA at *
  go_region_held_law (fun W => Boxed w c W ∧ W.cell? ⟨w.heap.size, 1, none⟩ = some (.string c.name) ∧ W.cell? ⟨w.heap.size, 2, none⟩ = some (.string c.to) ∧ W.frozen? ⟨w.heap.size, 1, none⟩ = false ∧ W.frozen? ⟨w.heap.size, 2, none⟩ = false)
    (first | exact (Boxed.drew (And.left (by assumption))).full | exact (Boxed.set1 (And.left (by assumption))).full | exact (Boxed.set2 (And.left (by assumption))).full | exact (Boxed.below (And.left (by assumption)) (by assumption)).full)
    (first
      | (go_at_call 47; refine (hC1.out _).mono ?_; rintro e w' ⟨rfl, hb⟩)
      | (go_at_call 47; refine (hC2.out _).mono ?_; rintro e w' ⟨rfl, hb⟩))
  have B1 : Boxed w c ((w'.setCell ⟨w.heap.size, 1, none⟩ (.string c.name)).setCell ⟨w.heap.size, 2, none⟩ (.string c.to)) := And.left (by assumption)
  have HB1 := hide B1
  go_wp2_with fail
  generalize (w'.setCell ⟨w.heap.size, 1, none⟩ (.string c.name)).setCell ⟨w.heap.size, 2, none⟩ (.string c.to) = w1 at *
  clear BX hC1 hC2
  have D1 := H.out.below HB1.out.1
  have c7 := D1.cells.2.1.2.2.1
  obtain ⟨q0, q1, q2, q3⟩ := HB1.out.cells
  have hDo := hide (fun W (hW : W.ownsMap Tryz.prog 9 (plainElem Tryz.prog 3) G.bn (Maps.size S.names) S.names) => do_any G.bn S.names c W hW (by have := D1.ok.szn; omega) (by omega) (by omega) h3 h4)
  unfold chV at hDo
  have hnm := hide D1.nm
  clear D1 B1
  go_region_with (go_at_call 63; refine (hDo.out w1.drew hnm.out).mono ?_; rintro e w2 ⟨rfl, g2, o2, z2⟩)
  all_goals
    have hR := H.out.lt
    have hbn := H.out.nm.lt
    have nR : some R ≠ some G.bn := by intro e; have e1 := H.out.tR; have e2 := H.out.tn; rw [← Option.some.inj e] at e2; omega
    have nN : some w.heap.size ≠ some G.bn := by intro e; have := Option.some.inj e; omega
    have hs1 : w.heap.size < w1.heap.size := HB1.out.lt
    have hs2 : w1.heap.size ≤ w2.heap.size := g2.size
    have r2 : w2.heap[R]? = some (.cells (dRow S G) 78 (0, 0)) := by
      rw [g2.block R (show R < w1.heap.size by omega) nR]; exact (HB1.out.1.block R hR).trans H.out.row
    have x2 : w2.heap[w.heap.size]? = some (.cells #[.int .i64 c.kind, .string c.name, .string c.to, .int .i64 c.file] 113 (0, 0)) := by
      rw [g2.block w.heap.size hs1 nN]; exact HB1.out.2
    have T1 : Turn G.τ (fun n => n = 3) w w2 := ⟨by omega, fun i hi ht => by
      rw [g2.block i (show i < w1.heap.size by omega) (by intro e; rw [Option.some.inj e] at ht; exact ht H.out.tn)]
      exact HB1.out.1.block i hi⟩
    have hown := owns_keep T1 H.out.sc (fun g hg => by rw [H.out.ts g hg]; omega)
    have p9 := cell_of (i := 9) r2 rfl
    have p0 := cell_of (i := 0) x2 rfl
    have p1 := cell_of (i := 1) x2 rfl
    have p2 := cell_of (i := 2) x2 rfl
    have p3 := cell_of (i := 3) x2 rfl
    simp only [dRow] at p9
    simp at p9 p0 p1 p2 p3
    have f9 := frozen_of_row w2 R 9 _ _ r2
    have HO := hide (show ((w2.alloc (.cells #[.int .i64 c.kind, .string c.name, .string c.to, .int .i64 c.file] 113)).drew).ownsRow 0 113 4 G.sv S.since.length (S.since.flatMap chCells) from
      owns_keep (τ := fun _ => 0) (t := fun _ => False) (Turn.of_below ((Below.refl _ w2).alloc (Nat.le_refl _) _) _) hown (fun _ _ h => h))
    have HN := hide (ch_cells w2 c)
    have HI := hide (info_parts infoC)
    have HL := hide H.out.ok.szl
    have HT1 := hide T1
    have HR2 := hide r2
    have HO2 := hide o2
    have hO2 := hide (show w2.os = w.os ∧ w2.tape = w.tape ∧ w2.output = w.output from ⟨g2.os.trans HB1.out.1.os, g2.tape.trans HB1.out.1.tape, g2.output.trans HB1.out.1.output⟩)
    clear r2 x2 T1 hown g2 o2 c7 q0 q1 q2 q3 hDo hnm nR nN
    obtain ⟨i0, hi, hz0, hz1, hz2⟩ := HI.out
    have HF := hide (show ∀ w3 : World, ((w2.alloc (.cells #[.int .i64 c.kind, .string c.name, .string c.to, .int .i64 c.file] 113)).drew).grownBy w3 G.sv.ownBlock → w3.heap[R]? = some (.cells (dRow S G) 78 (0, 0)) ∧ w3.cell? ⟨R, 9, none⟩ = some G.sv ∧ w3.frozen? ⟨R, 9, none⟩ = false from fun w3 g3 => by
      have hr : w3.heap[R]? = some (.cells (dRow S G) 78 (0, 0)) := by
        rw [g3.block R (by simp; omega) (fun e => by have e1 := H.out.tR; have e2 := H.out.ts R e.symm; omega)]
        exact (Below.heap_alloc w2 _ R (by omega)).trans HR2.out
      exact ⟨hr, cell_of hr rfl, frozen_of_row w3 R 9 _ _ hr⟩)
    have a9 : (w2.alloc (.cells #[.int .i64 c.kind, .string c.name, .string c.to, .int .i64 c.file] 113)).cell? ⟨R, 9, none⟩ = some G.sv := by
      rw [World.cell?_of_block (w := w2) (Below.heap_alloc w2 _ R (by omega))]; exact p9
    go_wp2_with fail
    go_region_law (refine step_append_lies _ rfl (.tmp 22) (.tmp 24) 76 rfl 0 113 i0 _ 4 48 Tryz.underlying76 hi hz0 hz1 hz2 rfl (by decide) G.sv S.since.length _ (by simp [Act.eval]) HO.out ⟨w2.heap.size, 0, none⟩ 1 1 (chCells c) (by simp [Act.eval]) rfl HN.out (ch_one c) (by decide) (by unfold maxLen; have := HL.out; omega) (by have := HL.out; omega) (Nat.zero_le _) (w2.heap.size + 1) (by simp) ?_; intro g cap w3 o3 g3 l3 t3; have c9 := (HF.out w3 g3).2.1; have f9' := (HF.out w3 g3).2.2)
    all_goals
      go_end0
      exact ⟨rfl, change_fin _ H.out OK.out HT1.out hO2.out HO2.out g3 (HF.out w3 g3).1 o3 l3⟩

end Go.Proofs.YtcahlmneancapaaGreatDoor.Clep

/- What Create of a Disk does when called (a walk over the translated program): for any Disk of at most 2^40 calls, any name of at most 2^46 bytes. -/
namespace Go.Proofs.YtcahlmneancapaaGreatDoor.Clep
open Go.RowKit Go.Maps
set_option linter.unusedVariables false
set_option maxRecDepth 10000

def newCh (S : St) (s : ByteArray) : Chn := ⟨0, s, ⟨#[]⟩, S.made + 1⟩
def addS (S : St) (s : ByteArray) : St := { S with made := S.made + 1, files := S.files ++ [⟨S.made + 1, [], 0⟩], names := doS S.names (newCh S s), since := S.since ++ [newCh S s] }
def createS (S : St) (s : ByteArray) : Nat × St :=
  if okName s = false then (10, S)
  else if (beginS S).1 ≠ 0 then beginS S
  else if (fileAt (beginS S).2.files (lk (beginS S).2.names s)).isSome then (12, (beginS S).2)
  else if 64 ≤ Maps.size (beginS S).2.names then (65, (beginS S).2)
  else (0, addS (beginS S).2 s)
theorem begin_keeps (S : St) : (beginS S).2.calls = S.calls + 1 ∧ (beginS S).2.made = S.made ∧ (beginS S).2.files = S.files ∧ (beginS S).2.names = S.names ∧ (beginS S).2.lasting = S.lasting ∧ (beginS S).2.since = S.since ∧ (beginS S).2.q = S.q := by
  unfold beginS
  split <;> exact ⟨rfl, rfl, rfl, rfl, rfl, rfl, rfl⟩
theorem fileAt_snoc (fs : List Fl) (g : Fl) (k : Int) : fileAt (fs ++ [g]) k = (fileAt fs k).or (if (g.num : Int) = k then some g else none) := by
  unfold fileAt
  rw [List.find?_append]
  congr 1
  by_cases h : (g.num : Int) = k
  · rw [if_pos h]; simp [h]
  · rw [if_neg h]; simp [h]
theorem fileAt_none {fs : List Fl} {m : Nat} (h : ∀ f ∈ fs, f.num ≤ m) {k : Int} (hk : (m : Int) < k) : fileAt fs k = none := by
  unfold fileAt
  rw [List.find?_eq_none]
  intro f hf
  have := h f hf
  simp
  omega
theorem filesD_snoc {β : Nat → Nat} {fs : List Fl} {D : DataW Unit} {m b : Nat} {g : Fl} (h : FilesD β fs D) (hD : IsMap D) (hf : ∀ f ∈ fs, f.num ≤ m) (hg : g.num = m + 1) :
    FilesD (fun n => if n = m + 1 then b else β n) (fs ++ [g]) (D.put (.int .i64 ((m + 1 : Nat) : Int)) (i64L b)) := by
  intro k
  by_cases hk : k = ((m + 1 : Nat) : Int)
  · subst hk
    rw [Maps.atKey_put_same (k := .int .i64 _) hD trivial, Maps.has_put_same (k := .int .i64 _) hD trivial, fileAt_snoc, fileAt_none hf (by omega)]
    simp [hg]
  · have hne : Lit.int .i64 k ≠ .int .i64 ((m + 1 : Nat) : Int) := by intro e; injection e with _ e; exact hk e
    rw [Maps.atKey_put_other hne, Maps.has_put_other hne, fileAt_snoc, if_neg (by rw [hg]; exact fun e => hk e.symm), Option.or_none, (h k).1, (h k).2]
    cases hk2 : fileAt fs k with
    | none => exact ⟨rfl, rfl⟩
    | some f =>
      have := hf f (fileAt_mem hk2).1
      refine ⟨?_, rfl⟩
      show i64L (β f.num) = i64L ((if f.num = m + 1 then b else β f.num : Nat) : Int)
      rw [if_neg (by omega)]
theorem file_new {R : Nat} {S : St} {G : Gh} {w w' : World} {m : Nat} {D : DataW Unit} (h : DiskIs w R S G) (hf : ∀ f ∈ S.files, f.num ≤ m) (hm : S.made = m + 1) (h1 : w.ownsMap Tryz.prog 3 ptrElem G.bf (Maps.size D) D) (h2 : FilesD G.β S.files D) (h3 : Maps.size D + 1 ≤ S.calls)
    (o' : w'.ownsMap Tryz.prog 3 ptrElem G.bf (Maps.size D + 1) (D.put (.int .i64 ((m + 1 : Nat) : Int)) (i64L w.heap.size))) (g' : (w.alloc (.cells #[.slice none 0 0, .int .i64 0] 109)).grownBy w' (some G.bf)) :
    ∃ G', DiskIs w' R { S with files := S.files ++ [⟨m + 1, [], 0⟩] } G' ∧ Kept G G' w w' := by
  have hbf := h1.lt
  have T : Turn G.τ (fun n => n = 2) w w' := ⟨by have := g'.size; simp at this; omega, fun i hi ht => by
    rw [g'.block i (by simp; omega) (fun e => ht (by rw [Option.some.inj e]; exact h.tf))]
    exact Below.heap_alloc w _ i hi⟩
  have hb : w'.heap[w.heap.size]? = some (.cells #[.slice none 0 0, .int .i64 0] 109 (0, 0)) := by
    rw [g'.block w.heap.size (by simp) (fun e => by have := Option.some.inj e; omega)]
    exact (MapKept.heap_alloc w _).1
  have hs : w.heap.size < w'.heap.size := by have := g'.size; simp at this; omega
  have ht : ∀ i, G.τ i ≠ 0 → (if i = w.heap.size then 6 + 2 * (m + 1) else G.τ i) = G.τ i := fun i h0 => by
    rw [if_neg]
    rintro rfl
    exact h0 (h.top _ (Nat.le_refl _))
  have hT := h1.tidy lawI
  refine ⟨{ G with β := fun n => if n = m + 1 then w.heap.size else G.β n, τ := fun i => if i = w.heap.size then 6 + 2 * (m + 1) else G.τ i },
    ⟨drow_keep T h.row (by rw [h.tR]; omega), ⟨_, tight o', filesD_snoc h2 hT.isMap hf rfl, ?_⟩, map_keep T h.nm (by rw [h.tn]; omega), map_keep T h.lm (by rw [h.tl]; omega), owns_keep T h.sc (fun g hg => by rw [h.ts g hg]; omega), ?_, ?_, ?_, ?_, ?_, ?_, ?_, ?_⟩, ?_⟩
  · have := Maps.size_put hT (k := .int .i64 ((m + 1 : Nat) : Int)) (i64L w.heap.size)
    show _ ≤ S.calls
    split at this <;> omega
  · intro f hf'
    rcases List.mem_append.1 hf' with hf' | hf'
    · have hle := hf f hf'
      exact (file_keep T (h.files f hf') (by omega) (by omega)).retag (if_neg (by omega)) fun i hi => ht i (by omega)
    · rw [List.mem_singleton] at hf'
      subst hf'
      exact ⟨⟨.slice none 0 0, by simpa using hb, ⟨rfl, .inl ⟨rfl, rfl⟩⟩, fun g hg => by cases hg⟩, by simp, by simp, by simp, by simp⟩
  · exact (ht R (by rw [h.tR]; omega)).trans h.tR
  · exact (ht _ (by rw [h.tf]; omega)).trans h.tf
  · exact (ht _ (by rw [h.tn]; omega)).trans h.tn
  · exact (ht _ (by rw [h.tl]; omega)).trans h.tl
  · exact fun g hg => (ht g (by rw [h.ts g hg]; omega)).trans (h.ts g hg)
  · intro i hi
    show (if i = w.heap.size then 6 + 2 * (m + 1) else G.τ i) = 0
    rw [if_neg (by omega)]
    exact h.top i (by omega)
  · obtain ⟨a1, a2, a3, a4, a5, a6, a7, a8, a9, a10, a11⟩ := h.ok
    refine ⟨?_, ?_, fun p hp => ?_, fun p hp => ?_, fun c hc => ?_, a6, a7, a8, a9, a10, a11⟩
    · rw [List.pairwise_append]
      refine ⟨a1, List.pairwise_singleton _ _, fun f hf' g hg => ?_⟩
      rw [List.mem_singleton] at hg
      subst hg
      have := hf f hf'
      show f.num < m + 1
      omega
    · intro f hf'
      rcases List.mem_append.1 hf' with hf' | hf'
      · exact a2 f hf'
      · rw [List.mem_singleton] at hf'; subst hf'
        show 1 ≤ m + 1 ∧ m + 1 ≤ S.made
        omega
    · obtain ⟨f, hf', e⟩ := a3 p hp; exact ⟨f, List.mem_append_left _ hf', e⟩
    · obtain ⟨f, hf', e⟩ := a4 p hp; exact ⟨f, List.mem_append_left _ hf', e⟩
    · obtain ⟨b1, b2, b3, b4, b5⟩ := a5 c hc
      exact ⟨b1, b2, b3, fun h0 => by obtain ⟨f, hf', e⟩ := b4 h0; exact ⟨f, List.mem_append_left _ hf', e⟩, b5⟩
  · refine ⟨?_, ?_, ?_, T.1, fun i hi h0 => T.2 i hi (by rw [h0]; omega), fun i hi h0 => ?_⟩
    · rw [g'.os]; rfl
    · rw [g'.tape]; rfl
    · rw [g'.output]; rfl
    · show (if i = w.heap.size then 6 + 2 * (m + 1) else G.τ i) = 0
      rw [if_neg (by omega)]
      exact h0

theorem entries_put {D : DataW Unit} {k : Lit} {d : DataW Unit} {p : Lit × DataW Unit} (h : p ∈ entries (D.put k d)) : p = (k, d) ∨ p ∈ entries D := by
  cases D <;> simp only [DataW.put, entries, List.not_mem_nil] at h ⊢
  rename_i es
  have : ∀ l : List (Lit × DataW Unit), p ∈ DataW.insert (k, d) l → p = (k, d) ∨ p ∈ l := by
    intro l
    induction l with
    | nil => intro h; simp only [DataW.insert, List.mem_singleton] at h; exact .inl h
    | cons y r ih =>
      intro h
      simp only [DataW.insert] at h
      split at h
      · rcases List.mem_cons.1 h with h | h
        · exact .inl h
        · exact .inr h
      · rcases List.mem_cons.1 h with h | h
        · exact .inr (by rw [h]; exact List.mem_cons_self)
        · exact (ih h).imp id (List.mem_cons_of_mem _)
  exact (this _ h).imp id (fun h => (List.mem_filter.1 h).1)
theorem entries_del {D : DataW Unit} {k : Lit} {p : Lit × DataW Unit} (h : p ∈ entries (D.del k)) : p ∈ entries D := by
  cases D <;> simp only [DataW.del, entries, List.not_mem_nil] at h ⊢
  exact (List.mem_filter.1 h).1
theorem at_of_has {D : DataW Unit} {k : Lit} (h : Maps.has D k = true) (z : DataW Unit) : ∃ p ∈ entries D, p.1 = k ∧ D.atKey k z = p.2 := by
  cases D <;> simp only [Maps.has, Bool.false_eq_true] at h
  rename_i es
  obtain ⟨p, hp, hs⟩ := List.any_eq_true.1 h
  simp only [DataW.atKey, entries]
  cases hf : es.find? (fun p => p.1.sameKey k) with
  | none => exact absurd hs (by have := List.find?_eq_none.1 hf p hp; exact this)
  | some q => exact ⟨q, List.mem_of_find?_eq_some hf, WideAt.sameKey_eq (by have := List.find?_some hf; exact this), rfl⟩
theorem leads_do {fs : List Fl} {D : DataW Unit} {c : Chn} (h : Leads fs D) (hc : c.kind = 0 → ∃ f ∈ fs, c.file = f.num) : Leads fs (doS D c) := by
  intro p hp
  unfold doS at hp
  split at hp
  · rename_i h0
    rcases entries_put hp with rfl | hp
    · obtain ⟨f, hf, e⟩ := hc h0
      exact ⟨f, hf, by rw [e]⟩
    · exact h p hp
  · split at hp
    · split at hp
      · rename_i hh
        rcases entries_put hp with rfl | hp
        · obtain ⟨q, hq, _, e⟩ := at_of_has hh (i64L 0)
          obtain ⟨f, hf, e'⟩ := h q hq
          refine ⟨f, hf, ?_⟩
          show i64L (lk D c.name) = _
          unfold lk
          rw [e, e']
          rfl
        · exact h p (entries_del hp)
      · exact h p hp
    · split at hp
      · exact h p (entries_del hp)
      · exact h p hp

theorem int_keys {E : Value → Option (DataW Unit × List MemPlace)} {w : World} {b n : Nat} {D : DataW Unit} (h : w.ownsMap Tryz.prog 3 E b n D) : ∃ es, D = .map es ∧ es.Pairwise (fun p q => p.1 ≠ q.1) ∧ ∀ p ∈ es, ∃ x, p.1 = .int .i64 x := by
  obtain ⟨es, he, hp, _⟩ := h.entries lawI
  refine ⟨es, he, hp, fun p hp' => ?_⟩
  obtain ⟨es', clock, hb, F, hs, hD⟩ := h
  rw [he] at hD
  injection hD with hD
  rw [hD, mem_sorted] at hp'
  obtain ⟨v, hv⟩ := Maps.fit_keys F p hp'
  obtain ⟨x, _, hx, _⟩ := Maps.keyOf_i64 Tryz.underlying3 hv
  exact ⟨x, hx⟩
theorem files_perm {w : World} {b n : Nat} {D : DataW Unit} {β : Nat → Nat} {fs : List Fl} (h : w.ownsMap Tryz.prog 3 ptrElem b n D) (hD : FilesD β fs D) (hr : fs.Pairwise fun f g => f.num < g.num) :
    (fs.map fun f => (f.num : Int)).Perm (intKeys D) := by
  obtain ⟨es, rfl, hp, hk⟩ := int_keys h
  refine perm_intKeys hp hk ?_ fun x => ?_
  · rw [List.nodup_iff_pairwise_ne, List.pairwise_map]
    exact hr.imp (fun h => by omega)
  · rw [(hD x).2, List.mem_map]
    constructor
    · rintro ⟨f, hf, rfl⟩
      rw [fileAt_of hr hf]; rfl
    · intro h
      obtain ⟨f, hf⟩ := Option.isSome_iff_exists.1 h
      exact ⟨f, (fileAt_mem hf).1, (fileAt_mem hf).2.symm⟩
theorem files_size {w : World} {b n : Nat} {D : DataW Unit} {β : Nat → Nat} {fs : List Fl} (h : w.ownsMap Tryz.prog 3 ptrElem b n D) (hD : FilesD β fs D) (hr : fs.Pairwise fun f g => f.num < g.num) : Maps.size D = fs.length := by
  have := (files_perm h hD hr).length_eq
  obtain ⟨es, rfl, _, _⟩ := int_keys h
  rw [Maps.size_eq]
  simp only [intKeys, List.length_map] at this
  exact this.symm
theorem rise_len : ∀ (fs : List Fl) (a m : Nat), fs.Pairwise (fun f g => f.num < g.num) → (∀ f ∈ fs, a < f.num ∧ f.num ≤ m) → fs.length + a ≤ m ∨ fs = []
  | [], _, _, _, _ => .inr rfl
  | f :: r, a, m, hr, hf => by
    rw [List.pairwise_cons] at hr
    have h0 := hf f List.mem_cons_self
    left
    rcases rise_len r f.num m hr.2 (fun g hg => ⟨hr.1 g hg, (hf g (List.mem_cons_of_mem _ hg)).2⟩) with h | h
    · simp only [List.length_cons]; omega
    · subst h; simp; omega
theorem files_few {S : St} (h : Ok S) : S.files.length ≤ S.made := by
  rcases rise_len S.files 0 S.made h.rise (fun f hf => ⟨(h.nums f hf).1, (h.nums f hf).2⟩) with h' | h'
  · omega
  · rw [h']; simp

end Go.Proofs.YtcahlmneancapaaGreatDoor.Clep

/- What Create of a Disk does when called: the walk over the translated program. For any Disk of fewer than 2^40 calls, any name of at most 2^46 bytes. -/
namespace Go.Proofs.YtcahlmneancapaaGreatDoor.Clep
open Go.RowKit Go.Maps
set_option linter.unusedVariables false
set_option maxRecDepth 10000

theorem txts_one (w : World) (s : ByteArray) : Txts (w.alloc (.cells #[.string s] 9)) (some ⟨w.heap.size, 0, none⟩) [s] := by
  intro i hi
  obtain rfl : i = 0 := by simpa using hi
  exact ⟨_, _, rfl, cell_of (MapKept.heap_alloc w _).1 (by simp)⟩
theorem okName_le {s : ByteArray} (h : okName s = true) : 1 ≤ s.size ∧ s.size ≤ 16 := by
  unfold okName at h
  simp only [Bool.and_eq_true, decide_eq_true_eq] at h
  exact h.1
theorem add_ok {S S1 : St} {s : ByteArray} (hS : S1.calls = S.calls + 1 ∧ S1.made = S.made ∧ S1.files = S.files ∧ S1.names = S.names ∧ S1.lasting = S.lasting ∧ S1.since = S.since ∧ S1.q = S.q) (h : Ok S) (h1 : Ok S1) (hs : s.size ≤ 16) (hz : Maps.size (doS S1.names (newCh S1 s)) ≤ Maps.size S1.names + 1) : Ok (addS S1 s) := by
  obtain ⟨c1, c2, c3, c4, c5, c6, c7⟩ := hS
  obtain ⟨a1, a2, a3, a4, a5, a6, a7, a8, a9, a10, a11⟩ := h1
  have b6 := h.szn
  have b7 := h.szl
  have b8 := h.mad
  rw [← c4] at b6
  rw [← c5, ← c6] at b7
  rw [← c2] at b8
  have L : ∀ D, Leads S1.files D → Leads (S1.files ++ [⟨S1.made + 1, [], 0⟩]) D := fun D hD p hp => by obtain ⟨f, hf, e⟩ := hD p hp; exact ⟨f, List.mem_append_left _ hf, e⟩
  refine ⟨?_, ?_, leads_do (c := newCh S1 s) (L _ a3) (fun _ => ⟨_, List.mem_append_right _ (List.mem_singleton.2 rfl), rfl⟩), L _ a4, ?_, ?_, ?_, ?_, a9, a10, a11⟩
  · show List.Pairwise _ (S1.files ++ [_])
    rw [List.pairwise_append]
    refine ⟨a1, List.pairwise_singleton _ _, fun f hf g hg => ?_⟩
    rw [List.mem_singleton] at hg
    subst hg
    have := a2 f hf
    show f.num < S1.made + 1
    omega
  · intro f hf
    show 1 ≤ f.num ∧ f.num ≤ S1.made + 1
    rcases List.mem_append.1 hf with hf | hf
    · have := a2 f hf; omega
    · rw [List.mem_singleton] at hf; subst hf; exact ⟨by simp, Nat.le_refl _⟩
  · intro c hc
    rcases List.mem_append.1 hc with hc | hc
    · obtain ⟨b1, b2, b3, b4, b5⟩ := a5 c hc
      exact ⟨b1, b2, b3, fun h0 => by obtain ⟨f, hf, e⟩ := b4 h0; exact ⟨f, List.mem_append_left _ hf, e⟩, Nat.le_trans b5 (Nat.le_succ _)⟩
    · rw [List.mem_singleton] at hc
      subst hc
      exact ⟨Nat.zero_le _, hs, Nat.zero_le _, fun _ => ⟨_, List.mem_append_right _ (List.mem_singleton.2 rfl), rfl⟩, Nat.le_refl _⟩
  · show Maps.size (doS S1.names (newCh S1 s)) ≤ S1.calls
    omega
  · show Maps.size S1.lasting + (S1.since ++ [_]).length ≤ S1.calls
    rw [List.length_append]
    simp
    omega
  · show S1.made + 1 ≤ S1.calls
    omega

set_option maxHeartbeats 800000 in
set_option maxRecDepth 4000 in
theorem create_any (R : Nat) (S : St) (G : Gh) (s : ByteArray) (w : World) (h : DiskIs w R S G) (hm : S.calls < 1099511627776) (hs : s.size ≤ 70368744177664) :
    Calls Tryz.prog 21 #[.pointer (some ⟨R, 0, none⟩), .string s] w fun e w' => e = .returned (.int .i64 (createS S s).1) ∧ ∃ G', DiskIs w' R (createS S s).2 G' ∧ Kept G G' w w' := by
  have H := hide h
  have BA := (Below.refl w.heap.size w).alloc (Nat.le_refl _) (.cells #[.string s] 9)
  have BG := hide (begin_any R S G (some ⟨w.heap.size, 0, none⟩) [s] _ (h.below BA) (by omega) (by simp) (txts_one w s) (by simpa using hs))
  have HA := hide BA
  clear h BA
  go_enter Tryz.func21, Tryz.ntmps21
  go_wp2_with fail
  refine BG.out.mono ?_
  clear BG
  generalize w.alloc (.cells #[.string s] 9) = wA at *
  rintro e w1 (⟨hno, rfl, rfl⟩ | ⟨hyes, rfl, D1, K1⟩)
  · have hc : createS S s = (10, S) := by unfold createS; rw [if_pos (by simpa using hno)]
    have HC := hide hc
    clear hc
    go_wp2
    go_ret
    exact ⟨by rw [HC.out]; rfl, by rw [HC.out]; exact ⟨G, H.out.below HA.out, Kept.of_below HA.out⟩⟩
  · have hk := begin_keeps S
    have hy : okName s = true := by simpa using hyes
    have hc0 : createS S s = if (beginS S).1 ≠ 0 then beginS S else if (fileAt (beginS S).2.files (lk (beginS S).2.names s)).isSome then (12, (beginS S).2) else if 64 ≤ Maps.size (beginS S).2.names then (65, (beginS S).2) else (0, addS (beginS S).2 s) := by
      unfold createS; rw [if_neg (by rw [hy]; simp)]
    have HC := hide hc0
    have KK := hide ((Kept.of_below (G := G) HA.out).trans K1)
    have HD := hide D1
    have HK := hide hk
    clear hc0 K1 D1 hk hyes
    obtain ⟨e1, S1, hb⟩ : ∃ e1 S1, beginS S = (e1, S1) := ⟨_, _, rfl⟩
    rw [hb] at HC HD HK ⊢
    simp only at HC HD HK
    by_cases he : e1 = 0
    · subst he
      have hF := hide (find_disk R S1 G s w1 HD.out hs)
      go_wp2_with fail
      refine hF.out.mono ?_
      rintro e w2 ⟨rfl, b2⟩
      have HD2 := hide (HD.out.below b2)
      have KK2 := hide (KK.out.trans (Kept.of_below b2))
      clear b2 hF KK HD
      cases hf : fileAt S1.files (lk S1.names s) with
      | some f =>
        have HC2 := hide (show createS S s = (12, S1) by rw [HC.out, hf]; rfl)
        simp only [ptrOf]
        go_wp2
        go_ret
        exact ⟨by rw [HC2.out]; rfl, by rw [HC2.out]; exact ⟨G, HD2.out, KK2.out⟩⟩
      | none =>
        simp only [ptrOf]
        have HC2 := hide (show createS S s = if 64 ≤ Maps.size S1.names then (65, S1) else (0, addS S1 s) by rw [HC.out, hf]; rfl)
        have c7 := HD2.out.cells.2.1.2.2.1
        have c5 := HD2.out.cells.2.1.1
        have f5 := HD2.out.cells.2.2 5
        clear HC hf
        by_cases h64 : 64 ≤ Maps.size S1.names
        · have h64' : (64 : Int) ≤ (Maps.size S1.names : Int) := by omega
          go_wp2_with (first
            | (at_len; refine wpList_len_own _ rfl _ 70 rfl 9 3 Tryz.underlying70 _ G.bn _ _ rfl HD2.out.nm ?_)
            | go_in)
          go_ret
          exact ⟨by rw [HC2.out, if_pos h64]; rfl, by rw [HC2.out, if_pos h64]; exact ⟨G, HD2.out, KK2.out⟩⟩
        · have h64' : ¬ ((64 : Int) ≤ (Maps.size S1.names : Int)) := by omega
          have hcl := HK.out.1
          have hmd := HK.out.2.1
          have hmo := H.out.ok.mad
          have hmade : (S1.made : Int) + 1 ≤ 1099511627776 := by omega
          have hok := HD2.out.ok
          have ok3 : Ok { S1 with made := S1.made + 1 } := ⟨hok.rise, fun f hf => ⟨(hok.nums f hf).1, Nat.le_trans (hok.nums f hf).2 (Nat.le_succ _)⟩, hok.named, hok.lasted, fun c hc => by
            obtain ⟨b1, b2, b3, b4, b5⟩ := hok.crea c hc
            exact ⟨b1, b2, b3, b4, Nat.le_trans b5 (Nat.le_succ _)⟩, hok.szn, hok.szl, by show S1.made + 1 ≤ S1.calls; omega, hok.quo, hok.stp, hok.fai⟩
          have D3 := HD2.out.put (S' := { S1 with made := S1.made + 1 }) 5 (.int .i64 (S1.made + 1)) rfl rfl rfl rfl rfl (Nat.le_refl _) ok3
          have K3 := KK2.out.trans (kept_set (G := G) (w := w2) (b := R) 5 (.int .i64 (S1.made + 1)) (by rw [HD2.out.tR]; omega))
          have HD3 := hide D3
          have HK3 := hide K3
          have hle := hide hok.nums
          have OK1 := hide hok
          clear D3 K3 hok ok3 hcl hmd hmo
          go_wp2_with (first
            | (at_len; refine wpList_len_own _ rfl _ 70 rfl 9 3 Tryz.underlying70 _ G.bn _ _ rfl HD2.out.nm ?_)
            | fail)
          generalize w2.setCell ⟨R, 5, none⟩ (.int .i64 (S1.made + 1)) = w3 at *
          clear c7 c5 f5 HD2 KK2
          have d5 := HD3.out.cells.2.1.1
          have d6 := HD3.out.cells.2.1.2.1
          rw [show (({ S1 with made := S1.made + 1 } : St).made : Int) = (S1.made : Int) + 1 from rfl] at d5
          have hR := HD3.out.lt
          have a5 : (w3.alloc (.cells #[.slice none 0 0, .int .i64 0] 109)).cell? ⟨R, 5, none⟩ = some (.int .i64 (S1.made + 1)) := by
            rw [World.cell?_of_block (w := w3) (Below.heap_alloc w3 _ R hR)]; exact d5
          have a6 : (w3.alloc (.cells #[.slice none 0 0, .int .i64 0] 109)).cell? ⟨R, 6, none⟩ = some (.map (some G.bf)) := by
            rw [World.cell?_of_block (w := w3) (Below.heap_alloc w3 _ R hR)]; exact d6
          obtain ⟨D, f1, f2, f3⟩ := HD3.out.fm
          have hfew := files_size f1 f2 HD3.out.ok.rise
          have hfew2 : S1.files.length ≤ S1.made := by
            rcases rise_len S1.files 0 S1.made HD3.out.ok.rise hle.out with h' | h'
            · omega
            · rw [h']; simp
          have hsz : Maps.size D + 1 ≤ S1.calls := by
            have hcl := HK.out.1
            have hmd := HK.out.2.1
            have hmo := H.out.ok.mad
            rw [hfew]; show S1.files.length + 1 ≤ _; omega
          have hsz2 : S1.calls ≤ 1099511627776 := by have hcl := HK.out.1; omega
          obtain ⟨w4, hrun, o4, g4⟩ := World.ownsMap.update (w := (w3.alloc (.cells #[.slice none 0 0, .int .i64 0] 109)).drew) (f1.alloc _).drew lawI Tryz.underlying68 (by unfold maxLen; omega) (keyOf_int_mk Tryz.underlying3 (a := (S1.made : Int) + 1) (WalkArith.wf_i64 (by omega))) (ptrElem_mk w3.heap.size)
          have NEW := hide (file_new (m := S1.made) HD3.out (fun f hf => (hle.out f hf).2) rfl f1 f2 hsz o4 ⟨g4.os, g4.tape, g4.output, g4.size, g4.block⟩)
          clear f1 f2 f3 o4 g4 hfew
          have hsz3 : Maps.size (doS S1.names (newCh S1 s)) ≤ Maps.size S1.names + 1 := by
            have hsp := Maps.size_put (HD3.out.nm.tidy lawS) (k := key s) (i64L ((S1.made + 1 : Nat) : Int))
            show Maps.size (S1.names.put (key s) (i64L ((S1.made + 1 : Nat) : Int))) ≤ _
            split at hsp <;> simp only at hsp <;> omega
          have OKA := hide (add_ok HK.out H.out.ok OK1.out (okName_le hy).2 hsz3)
          obtain ⟨G4, D4, K4⟩ := NEW.out
          have CH : Calls Tryz.prog 51 #[.pointer (some ⟨R, 0, none⟩), .agg #[.int .i64 0, .string s, .string ⟨#[]⟩, .int .i64 (S1.made + 1)]] w4 _ := change_any R _ G4 (newCh S1 s) w4 D4 hsz2 (okName_le hy).2 (Nat.zero_le _) (Nat.zero_le _) (by show S1.made + 1 ≤ _; omega) OKA.out
          have HCH := hide CH
          have e5 : w4.cell? ⟨R, 5, none⟩ = some (.int .i64 (S1.made + 1)) := D4.cells.2.1.1
          have HK4 := hide (HK3.out.trans K4)
          clear K4 D4 NEW CH
          go_region
          go_wp2_with fail
          refine HCH.out.mono ?_
          rintro e w5 ⟨rfl, G5, D5, K5⟩
          have HD5 := hide D5
          have HK5 := hide K5
          clear D5 K5
          go_wp2
          go_ret
          exact ⟨by rw [HC2.out, if_neg h64]; rfl, by rw [HC2.out, if_neg h64]; exact ⟨G5, HD5.out, HK4.out.trans HK5.out⟩⟩
    · have HC2 := hide (show createS S s = (e1, S1) by rw [HC.out, if_pos he])
      have hne : ¬ ((e1 : Int) = 0) := by omega
      go_wp2
      go_ret
      exact ⟨by rw [HC2.out]; rfl, by rw [HC2.out]; exact ⟨G, HD.out, KK.out⟩⟩

end Go.Proofs.YtcahlmneancapaaGreatDoor.Clep
