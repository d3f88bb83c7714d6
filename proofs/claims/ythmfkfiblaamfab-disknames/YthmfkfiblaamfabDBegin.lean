/- What begin of a Disk does when called (a walk over the translated program): for any Disk of at most 2^40 calls, any names of at most 2^46 bytes. -/
import Derived.Test.YthmfkfiblaamfabDSize
namespace Go.Proofs.Ythmfkfiblaamfab.Clep
open Go.RowKit Go.Maps
set_option linter.unusedVariables false

theorem DiskIs.put {w : World} {R : Nat} {S S' : St} {G : Gh} (h : DiskIs w R S G) (i : Nat) (v : Value) (e : (dRow S G).setIfInBounds i v = dRow S' G)
    (e1 : S'.files = S.files) (e2 : S'.names = S.names) (e3 : S'.lasting = S.lasting) (e4 : S'.since = S.since) (e5 : S.calls ≤ S'.calls) (ok : Ok S') : DiskIs (w.setCell ⟨R, i, none⟩ v) R S' G :=
  h.set (by rw [heap_setCell_same w R i _ _ v h.row, e]) (turn_set v h.tR) (by simp) e1 e2 e3 e4 e5 ok
theorem kept_set {G : Gh} {w : World} {b : Nat} (i : Nat) (v : Value) (h : G.τ b ≠ 0) : Kept G G w (w.setCell ⟨b, i, none⟩ v) :=
  ⟨rfl, rfl, rfl, by simp, fun k _ hk => heap_setCell_other w ⟨b, i, none⟩ k v (fun e => h (by rw [← show k = b from e]; exact hk)), fun _ _ h => h⟩

def beginS (S : St) : Nat × St :=
  if S.dead then (50, { S with calls := S.calls + 1 })
  else (if S.fail = 1 then 15 else 0, { S with calls := S.calls + 1, stop := S.stop - 1, dead := decide (S.stop = 1), fail := S.fail - 1 })
/-- Texts that a slice value leads to. -/
def Txts (w : World) (ao : Option Addr) (ns : List ByteArray) : Prop := ∀ i, i < ns.length → ∃ b off, ao = some ⟨b, off, none⟩ ∧ w.cell? ⟨b, off + i, none⟩ = some (.string (ns.getD i ByteArray.empty))

theorem last_disk (R o n : Nat) (S S' : St) (G : Gh) (w : World) (h : DiskIs w R S G) (h0 : w.cell? ⟨R, o, none⟩ = some (.int .i64 n)) (hn : n ≤ 9223372036854775807) (e : (dRow S G).setIfInBounds o (.int .i64 ((n - 1 : Nat) : Int)) = dRow S' G)
    (e1 : S'.files = S.files) (e2 : S'.names = S.names) (e3 : S'.lasting = S.lasting) (e4 : S'.since = S.since) (e5 : S.calls ≤ S'.calls) (ok : Ok S') (es : n = 0 → S' = S) :
    Calls Try.prog 41 #[.pointer (some ⟨R, o, none⟩)] w fun e w' => e = .returned (.bool (decide (n = 1))) ∧ DiskIs w' R S' G ∧ Kept G G w w' := by
  refine (last_any R o n w h0 (h.cells.2.2 o) hn).mono ?_
  rintro e' w' ⟨rfl, ⟨rfl, hz0⟩ | ⟨rfl, _⟩⟩
  · exact ⟨rfl, by rw [es hz0]; exact h, Kept.refl _ _⟩
  · exact ⟨rfl, h.put o _ e e1 e2 e3 e4 e5 ok, kept_set _ _ (by rw [h.tR]; omega)⟩
theorem Ok.scal {S : St} (h : Ok S) (c st fa : Nat) (d : Bool) (hc : S.calls ≤ c) (h1 : st ≤ 9223372036854775807) (h2 : fa ≤ 9223372036854775807) : Ok { S with calls := c, stop := st, fail := fa, dead := d } := by
  obtain ⟨a1, a2, a3, a4, a5, a6, a7, a8, a9, a10, a11⟩ := h
  exact ⟨a1, a2, a3, a4, a5, Nat.le_trans a6 hc, Nat.le_trans a7 hc, Nat.le_trans a8 hc, a9, h1, h2⟩

set_option maxHeartbeats 400000 in
theorem begin_any (R : Nat) (S : St) (G : Gh) (ao : Option Addr) (ns : List ByteArray) (w : World) (h : DiskIs w R S G) (hm : S.calls ≤ 1099511627776) (hl : ns.length ≤ 1000) (hn : Txts w ao ns) (hs : ∀ s ∈ ns, s.size ≤ 70368744177664) :
    Calls Try.prog 25 #[.pointer (some ⟨R, 0, none⟩), .slice ao ns.length ns.length] w fun e w' =>
      (ns.all okName = false ∧ e = .returned (.int .i64 10) ∧ w' = w) ∨
      (ns.all okName = true ∧ e = .returned (.int .i64 (beginS S).1) ∧ DiskIs w' R (beginS S).2 G ∧ Kept G G w w') := by
  have H := hide h
  have HN := hide hn
  have HS := hide hs
  clear h hn hs
  go_enter Try.func25, Try.ntmps25
  go_wp2
  go_loop [9] (fun i => ∃ k : Nat, k ≤ ns.length ∧ i = .int .i64 k ∧ Hid (∀ j, j < k → okName (ns.getD j ByteArray.empty) = true)) (fun i => ns.length - (intOf i).toNat)
  case atStart => exact ⟨0, by omega, rfl, hide (fun j hj => by omega)⟩
  case round =>
    obtain ⟨k, hk, rfl, hT⟩ := hrel
    by_cases hlk : k < ns.length
    · obtain ⟨b, off, rfl, hc⟩ := HN.out k hlk
      have hmem : ns.getD k ByteArray.empty ∈ ns := by
        rw [List.getD_eq_getElem?_getD, List.getElem?_eq_getElem hlk]; exact List.getElem_mem hlk
      have hz := HS.out _ hmem
      have HT := hide (show okName (ns.getD k ByteArray.empty) = true → ∀ j, j < k + 1 → okName (ns.getD j ByteArray.empty) = true from fun ho j hj => by
        rcases Nat.lt_or_ge j k with h1 | h1
        · exact hT.out j h1
        · obtain rfl : j = k := by omega
          exact ho)
      have HF := hide (show okName (ns.getD k ByteArray.empty) = false → ns.all okName = false from fun ho => by
        rw [List.all_eq_false]; exact ⟨_, hmem, by rw [ho]; simp⟩)
      clear hT hmem
      generalize ns.getD k ByteArray.empty = s at *
      go_wp2_with fail
      refine (isName_any s w hz).mono ?_
      rintro e w1 ⟨rfl, rfl⟩
      cases ho : okName s
      · have hF := hide (HF.out ho)
        clear HF HT ho
        go_wp2
        go_ret
        exact .inl ⟨hF.out, rfl, rfl⟩
      · have hG := hide (HT.out ho)
        clear HF HT ho
        go_wp2
        go_round
        case rel => exact ⟨k + 1, by omega, by go_num, hG⟩
        case measure => simp [intOf]; omega
    · have h8 : k = ns.length := by omega
      subst h8
      have hall : ns.all okName = true := by
        rw [List.all_eq_true]
        intro s hs
        obtain ⟨j, hj, rfl⟩ := List.getElem_of_mem hs
        have := hT.out j hj
        rwa [List.getD_eq_getElem?_getD, List.getElem?_eq_getElem hj] at this
      have HA := hide hall
      clear hall hT
      obtain ⟨⟨c0, c1, c2, c3, c4⟩, ⟨c5, c6, c7, c8, c9⟩, fr⟩ := H.out.cells
      have hadd := add_at R 1 S.calls w c1 (fr 1) (by omega)
      have D1 := H.out.put (S' := { S with calls := S.calls + 1 }) 1 (.int .i64 (S.calls + 1)) rfl rfl rfl rfl rfl (by simp) (H.out.ok.scal _ _ _ _ (by simp) H.out.ok.stp H.out.ok.fai)
      have K1 := kept_set (G := G) (w := w) (b := R) 1 (.int .i64 (S.calls + 1)) (by rw [H.out.tR]; omega)
      have ADD := hide hadd
      clear hadd c0 c1 c2 c3 c4 c5 c6 c7 c8 c9 fr
      have e4 := D1.cells.1.2.2.2.2
      generalize hw1 : w.setCell ⟨R, 1, none⟩ (.int .i64 (S.calls + 1)) = w1 at *
      clear hw1
      have HD1 := hide D1
      have HK1 := hide K1
      clear D1 K1
      go_wp2_with fail
      refine ADD.out.mono ?_
      rintro e w1' ⟨rfl, rfl⟩
      clear ADD
      by_cases hd : S.dead = true
      · have hb : beginS S = (50, { S with calls := S.calls + 1 }) := by unfold beginS; rw [if_pos hd]
        rw [hd] at e4
        have HBg := hide hb
        clear hb
        go_wp2
        go_ret
        exact .inr ⟨HA.out, by rw [HBg.out]; rfl, by rw [HBg.out]; exact HD1.out, HK1.out⟩
      · rw [Bool.not_eq_true] at hd
        have hb : beginS S = (if S.fail = 1 then 15 else 0, { S with calls := S.calls + 1, stop := S.stop - 1, dead := decide (S.stop = 1), fail := S.fail - 1 }) := by unfold beginS; rw [if_neg (by rw [hd]; simp)]
        have HBg := hide hb
        have hst := H.out.ok.stp
        have hfa := H.out.ok.fai
        have L1 := last_disk R 2 S.stop _ { S with calls := S.calls + 1, stop := S.stop - 1 } G w1' HD1.out HD1.out.cells.1.2.2.1 hst rfl rfl rfl rfl rfl (by simp) (H.out.ok.scal _ _ _ _ (by simp) (by omega) hfa)
          (fun h0 => by simp only [h0])
        have HL1 := hide L1
        rw [show ({ S with calls := S.calls + 1 } : St).dead = false from hd] at e4
        clear hb L1
        go_wp2_with fail
        refine HL1.out.mono ?_
        rintro e w2 ⟨rfl, D2, K2⟩
        have D3 := D2.put (S' := { S with calls := S.calls + 1, stop := S.stop - 1, dead := decide (S.stop = 1) }) 4 (.bool (decide (S.stop = 1))) rfl rfl rfl rfl rfl (by simp) (H.out.ok.scal _ _ _ _ (by simp) (by omega) hfa)
        have K3 := kept_set (G := G) (w := w2) (b := R) 4 (.bool (decide (S.stop = 1))) (by rw [H.out.tR]; omega)
        have c4 := D2.cells.1.2.2.2.2
        have f4 := D2.cells.2.2 4
        have HD3 := hide D3
        have HK3 := hide (HK1.out.trans (K2.trans K3))
        clear D3 K3 K2 D2 HL1 e4
        go_wp2_with fail
        generalize w2.setCell ⟨R, 4, none⟩ (.bool (decide (S.stop = 1))) = w3 at *
        refine (last_disk R 3 S.fail _ { S with calls := S.calls + 1, stop := S.stop - 1, dead := decide (S.stop = 1), fail := S.fail - 1 } G w3 HD3.out HD3.out.cells.1.2.2.2.1 hfa rfl rfl rfl rfl rfl (by simp) (H.out.ok.scal _ _ _ _ (by simp) (by omega) (by omega)) (fun h0 => by simp only [h0])).mono ?_
        rintro e w4 ⟨rfl, D4, K4⟩
        have HD4 := hide D4
        have HK4 := hide (HK3.out.trans K4)
        clear D4 K4 HK3 HD3 c4 f4
        by_cases hf : S.fail = 1
        · have df : decide (S.fail = 1) = true := decide_eq_true hf
          rw [df]
          go_wp2
          go_ret
          exact .inr ⟨HA.out, by rw [HBg.out, if_pos hf]; rfl, by rw [HBg.out]; exact HD4.out, HK4.out⟩
        · have df : decide (S.fail = 1) = false := decide_eq_false hf
          rw [df]
          go_wp2
          go_ret
          exact .inr ⟨HA.out, by rw [HBg.out, if_neg hf]; rfl, by rw [HBg.out]; exact HD4.out, HK4.out⟩

end Go.Proofs.Ythmfkfiblaamfab.Clep
