/- What Create of a Disk does when called: the walk over the translated program. For any Disk of fewer than 2^40 calls, any name of at most 2^46 bytes. -/
import Derived.Test.YthmfkfiblaamfabDCreate
namespace Go.Proofs.Ythmfkfiblaamfab.Clep
open Go.RowKit Go.Maps
set_option linter.unusedVariables false

theorem txts_one (w : World) (s : ByteArray) : Txts (w.alloc (.cells #[.string s] 9)) (some ⟨w.heap.size, 0, none⟩) [s] := by
  intro i hi
  obtain rfl : i = 0 := by simpa using hi
  exact ⟨_, _, rfl, cell_of (MapKept.heap_alloc w _).1 (by simp)⟩
theorem okName_le {s : ByteArray} (h : okName s = true) : 1 ≤ s.size ∧ s.size ≤ 16 := by
  unfold okName at h
  simp only [Bool.and_eq_true, decide_eq_true_eq] at h
  exact h.1
theorem add_ok {S S1 : St} {s : ByteArray} (hS : S1.calls = S.calls + 1 ∧ S1.made = S.made ∧ S1.files = S.files ∧ S1.names = S.names ∧ S1.lasting = S.lasting ∧ S1.since = S.since ∧ S1.q = S.q) (h : Ok S) (h1 : Ok S1) (hs : s.size ≤ 16) (hz : Maps.size (doS S1.names (newCh S1 s)) ≤ Maps.size S1.names + 1) : Ok (addS S1 s) := by
  obtain ⟨c1, c2, c3, c4, c5, c6, c7⟩ := hS
  obtain ⟨a1, a2, a3, a4, a5, a6, a7, a8, a9, a10, a11⟩ := h1
  have b6 := h.szn
  have b7 := h.szl
  have b8 := h.mad
  rw [← c4] at b6
  rw [← c5, ← c6] at b7
  rw [← c2] at b8
  have L : ∀ D, Leads S1.files D → Leads (S1.files ++ [⟨S1.made + 1, [], 0⟩]) D := fun D hD p hp => by obtain ⟨f, hf, e⟩ := hD p hp; exact ⟨f, List.mem_append_left _ hf, e⟩
  refine ⟨?_, ?_, leads_do (c := newCh S1 s) (L _ a3) (fun _ => ⟨_, List.mem_append_right _ (List.mem_singleton.2 rfl), rfl⟩), L _ a4, ?_, ?_, ?_, ?_, a9, a10, a11⟩
  · show List.Pairwise _ (S1.files ++ [_])
    rw [List.pairwise_append]
    refine ⟨a1, List.pairwise_singleton _ _, fun f hf g hg => ?_⟩
    rw [List.mem_singleton] at hg
    subst hg
    have := a2 f hf
    show f.num < S1.made + 1
    omega
  · intro f hf
    show 1 ≤ f.num ∧ f.num ≤ S1.made + 1
    rcases List.mem_append.1 hf with hf | hf
    · have := a2 f hf; omega
    · rw [List.mem_singleton] at hf; subst hf; exact ⟨by simp, Nat.le_refl _⟩
  · intro c hc
    rcases List.mem_append.1 hc with hc | hc
    · obtain ⟨b1, b2, b3, b4, b5⟩ := a5 c hc
      exact ⟨b1, b2, b3, fun h0 => by obtain ⟨f, hf, e⟩ := b4 h0; exact ⟨f, List.mem_append_left _ hf, e⟩, Nat.le_trans b5 (Nat.le_succ _)⟩
    · rw [List.mem_singleton] at hc
      subst hc
      exact ⟨Nat.zero_le _, hs, Nat.zero_le _, fun _ => ⟨_, List.mem_append_right _ (List.mem_singleton.2 rfl), rfl⟩, Nat.le_refl _⟩
  · show Maps.size (doS S1.names (newCh S1 s)) ≤ S1.calls
    omega
  · show Maps.size S1.lasting + (S1.since ++ [_]).length ≤ S1.calls
    rw [List.length_append]
    simp
    omega
  · show S1.made + 1 ≤ S1.calls
    omega

set_option maxHeartbeats 800000 in
set_option maxRecDepth 4000 in
theorem create_any (R : Nat) (S : St) (G : Gh) (s : ByteArray) (w : World) (h : DiskIs w R S G) (hm : S.calls < 1099511627776) (hs : s.size ≤ 70368744177664) :
    Calls Try.prog 7 #[.pointer (some ⟨R, 0, none⟩), .string s] w fun e w' => e = .returned (.int .i64 (createS S s).1) ∧ ∃ G', DiskIs w' R (createS S s).2 G' ∧ Kept G G' w w' := by
  have H := hide h
  have BA := (Below.refl w.heap.size w).alloc (Nat.le_refl _) (.cells #[.string s] 9)
  have BG := hide (begin_any R S G (some ⟨w.heap.size, 0, none⟩) [s] _ (h.below BA) (by omega) (by simp) (txts_one w s) (by simpa using hs))
  have HA := hide BA
  clear h BA
  go_enter Try.func7, Try.ntmps7
  go_wp2_with fail
  refine BG.out.mono ?_
  clear BG
  generalize w.alloc (.cells #[.string s] 9) = wA at *
  rintro e w1 (⟨hno, rfl, rfl⟩ | ⟨hyes, rfl, D1, K1⟩)
  · have hc : createS S s = (10, S) := by unfold createS; rw [if_pos (by simpa using hno)]
    have HC := hide hc
    clear hc
    go_wp2
    go_ret
    exact ⟨by rw [HC.out]; rfl, by rw [HC.out]; exact ⟨G, H.out.below HA.out, Kept.of_below HA.out⟩⟩
  · have hk := begin_keeps S
    have hy : okName s = true := by simpa using hyes
    have hc0 : createS S s = if (beginS S).1 ≠ 0 then beginS S else if (fileAt (beginS S).2.files (lk (beginS S).2.names s)).isSome then (12, (beginS S).2) else if 64 ≤ Maps.size (beginS S).2.names then (65, (beginS S).2) else (0, addS (beginS S).2 s) := by
      unfold createS; rw [if_neg (by rw [hy]; simp)]
    have HC := hide hc0
    have KK := hide ((Kept.of_below (G := G) HA.out).trans K1)
    have HD := hide D1
    have HK := hide hk
    clear hc0 K1 D1 hk hyes
    obtain ⟨e1, S1, hb⟩ : ∃ e1 S1, beginS S = (e1, S1) := ⟨_, _, rfl⟩
    rw [hb] at HC HD HK ⊢
    simp only at HC HD HK
    by_cases he : e1 = 0
    · subst he
      have hF := hide (find_disk R S1 G s w1 HD.out hs)
      go_wp2_with fail
      refine hF.out.mono ?_
      rintro e w2 ⟨rfl, b2⟩
      have HD2 := hide (HD.out.below b2)
      have KK2 := hide (KK.out.trans (Kept.of_below b2))
      clear b2 hF KK HD
      cases hf : fileAt S1.files (lk S1.names s) with
      | some f =>
        have HC2 := hide (show createS S s = (12, S1) by rw [HC.out, hf]; rfl)
        simp only [ptrOf]
        go_wp2
        go_ret
        exact ⟨by rw [HC2.out]; rfl, by rw [HC2.out]; exact ⟨G, HD2.out, KK2.out⟩⟩
      | none =>
        simp only [ptrOf]
        have HC2 := hide (show createS S s = if 64 ≤ Maps.size S1.names then (65, S1) else (0, addS S1 s) by rw [HC.out, hf]; rfl)
        have c7 := HD2.out.cells.2.1.2.2.1
        have c5 := HD2.out.cells.2.1.1
        have f5 := HD2.out.cells.2.2 5
        clear HC hf
        by_cases h64 : 64 ≤ Maps.size S1.names
        · have h64' : (64 : Int) ≤ (Maps.size S1.names : Int) := by omega
          go_wp2_with (first
            | (at_len; refine wpList_len_own _ rfl _ 49 rfl 9 3 Try.underlying49 _ G.bn _ _ rfl HD2.out.nm ?_)
            | go_in)
          go_ret
          exact ⟨by rw [HC2.out, if_pos h64]; rfl, by rw [HC2.out, if_pos h64]; exact ⟨G, HD2.out, KK2.out⟩⟩
        · have h64' : ¬ ((64 : Int) ≤ (Maps.size S1.names : Int)) := by omega
          have hcl := HK.out.1
          have hmd := HK.out.2.1
          have hmo := H.out.ok.mad
          have hmade : (S1.made : Int) + 1 ≤ 1099511627776 := by omega
          have hok := HD2.out.ok
          have ok3 : Ok { S1 with made := S1.made + 1 } := ⟨hok.rise, fun f hf => ⟨(hok.nums f hf).1, Nat.le_trans (hok.nums f hf).2 (Nat.le_succ _)⟩, hok.named, hok.lasted, fun c hc => by
            obtain ⟨b1, b2, b3, b4, b5⟩ := hok.crea c hc
            exact ⟨b1, b2, b3, b4, Nat.le_trans b5 (Nat.le_succ _)⟩, hok.szn, hok.szl, by show S1.made + 1 ≤ S1.calls; omega, hok.quo, hok.stp, hok.fai⟩
          have D3 := HD2.out.put (S' := { S1 with made := S1.made + 1 }) 5 (.int .i64 (S1.made + 1)) rfl rfl rfl rfl rfl (Nat.le_refl _) ok3
          have K3 := KK2.out.trans (kept_set (G := G) (w := w2) (b := R) 5 (.int .i64 (S1.made + 1)) (by rw [HD2.out.tR]; omega))
          have HD3 := hide D3
          have HK3 := hide K3
          have hle := hide hok.nums
          have OK1 := hide hok
          clear D3 K3 hok ok3 hcl hmd hmo
          go_wp2_with (first
            | (at_len; refine wpList_len_own _ rfl _ 49 rfl 9 3 Try.underlying49 _ G.bn _ _ rfl HD2.out.nm ?_)
            | fail)
          generalize w2.setCell ⟨R, 5, none⟩ (.int .i64 (S1.made + 1)) = w3 at *
          clear c7 c5 f5 HD2 KK2
          have d5 := HD3.out.cells.2.1.1
          have d6 := HD3.out.cells.2.1.2.1
          rw [show (({ S1 with made := S1.made + 1 } : St).made : Int) = (S1.made : Int) + 1 from rfl] at d5
          have hR := HD3.out.lt
          have a5 : (w3.alloc (.cells #[.slice none 0 0, .int .i64 0] 62)).cell? ⟨R, 5, none⟩ = some (.int .i64 (S1.made + 1)) := by
            rw [World.cell?_of_block (w := w3) (Below.heap_alloc w3 _ R hR)]; exact d5
          have a6 : (w3.alloc (.cells #[.slice none 0 0, .int .i64 0] 62)).cell? ⟨R, 6, none⟩ = some (.map (some G.bf)) := by
            rw [World.cell?_of_block (w := w3) (Below.heap_alloc w3 _ R hR)]; exact d6
          obtain ⟨D, f1, f2, f3⟩ := HD3.out.fm
          have hfew := files_size f1 f2 HD3.out.ok.rise
          have hfew2 : S1.files.length ≤ S1.made := by
            rcases rise_len S1.files 0 S1.made HD3.out.ok.rise hle.out with h' | h'
            · omega
            · rw [h']; simp
          have hsz : Maps.size D + 1 ≤ S1.calls := by
            have hcl := HK.out.1
            have hmd := HK.out.2.1
            have hmo := H.out.ok.mad
            rw [hfew]; show S1.files.length + 1 ≤ _; omega
          have hsz2 : S1.calls ≤ 1099511627776 := by have hcl := HK.out.1; omega
          obtain ⟨w4, hrun, o4, g4⟩ := World.ownsMap.update (w := (w3.alloc (.cells #[.slice none 0 0, .int .i64 0] 62)).drew) (f1.alloc _).drew lawI Try.underlying47 (by unfold maxLen; omega) (keyOf_int_mk Try.underlying3 (a := (S1.made : Int) + 1) (WalkArith.wf_i64 (by omega))) (ptrElem_mk w3.heap.size)
          have NEW := hide (file_new (m := S1.made) HD3.out (fun f hf => (hle.out f hf).2) rfl f1 f2 hsz o4 ⟨g4.os, g4.tape, g4.output, g4.size, g4.block⟩)
          clear f1 f2 f3 o4 g4 hfew
          have hsz3 : Maps.size (doS S1.names (newCh S1 s)) ≤ Maps.size S1.names + 1 := by
            have hsp := Maps.size_put (HD3.out.nm.tidy lawS) (k := key s) (i64L ((S1.made + 1 : Nat) : Int))
            show Maps.size (S1.names.put (key s) (i64L ((S1.made + 1 : Nat) : Int))) ≤ _
            split at hsp <;> simp only at hsp <;> omega
          have OKA := hide (add_ok HK.out H.out.ok OK1.out (okName_le hy).2 hsz3)
          obtain ⟨G4, D4, K4⟩ := NEW.out
          have CH : Calls Try.prog 27 #[.pointer (some ⟨R, 0, none⟩), .agg #[.int .i64 0, .string s, .string ⟨#[]⟩, .int .i64 (S1.made + 1)]] w4 _ := change_any R _ G4 (newCh S1 s) w4 D4 hsz2 (okName_le hy).2 (Nat.zero_le _) (Nat.zero_le _) (by show S1.made + 1 ≤ _; omega) OKA.out
          have HCH := hide CH
          have e5 : w4.cell? ⟨R, 5, none⟩ = some (.int .i64 (S1.made + 1)) := D4.cells.2.1.1
          have HK4 := hide (HK3.out.trans K4)
          clear K4 D4 NEW CH
          go_region
          go_wp2_with fail
          refine HCH.out.mono ?_
          rintro e w5 ⟨rfl, G5, D5, K5⟩
          have HD5 := hide D5
          have HK5 := hide K5
          clear D5 K5
          go_wp2
          go_ret
          exact ⟨by rw [HC2.out, if_neg h64]; rfl, by rw [HC2.out, if_neg h64]; exact ⟨G5, HD5.out, HK4.out.trans HK5.out⟩⟩
    · have HC2 := hide (show createS S s = (e1, S1) by rw [HC.out, if_pos he])
      have hne : ¬ ((e1 : Int) = 0) := by omega
      go_wp2
      go_ret
      exact ⟨by rw [HC2.out]; rfl, by rw [HC2.out]; exact ⟨G, HD.out, KK.out⟩⟩

end Go.Proofs.Ythmfkfiblaamfab.Clep
