/- What look.on and what it hands to Once do when called (walks over the translated program): the rows of places. Conditions: at most 100,000 files. Written by wip/tools/gen17on.py. -/
import Derived.Test.YtcbphalhjajapaaHLay
import Derived.Test.YtcbphalhjajapaaHInv
namespace Go.Proofs.Ytcbphalhjajapaa.Clep
open Go.RowKit
set_option linter.unusedVariables false
set_option linter.unusedSimpArgs false

/-- What each slot of the region holds. -/
def OTh (w : World) (b f : Nat) (F : Value) (m : Int) (ps : Nat → Value) (l : List He) (i kk : Nat) : (Nat → Bool) → Nat → Value → World → Prop := fun L j v W => match j with
  | 0 => v = .pointer (some ⟨b, 0, none⟩)
  | 1 => v = .pointer (some ⟨f, 1, none⟩)
  | 2 => v = .int .i64 (kk : Int)
  | 3 => v = .pointer (some ⟨b, 0, none⟩)
  | 4 => v = .pointer (some ⟨f, 1, none⟩)
  | 5 => v = .int .i64 (kk : Int)
  | 6 => v = .pointer (some ⟨b, 0, none⟩)
  | 7 => v = .pointer (some ⟨b, 4, none⟩)
  | 8 => v = .pointer (some ⟨b, 4 + kk, none⟩)
  | 9 => v = ps kk
  | 10 => v = .int .i64 (i : Int)
  | 13 => v = .pointer (some ⟨b, 0, none⟩)
  | 14 => v = .pointer (some ⟨b, 4, none⟩)
  | 15 => v = .pointer (some ⟨b, 4 + kk, none⟩)
  | 11 => ∃ p, v = .slice (some ⟨p, 0, none⟩) 1 1 ∧ (L 12 = false → Ek W p #[.int .i64 (i : Int)] 3)
  | 12 => ∃ a c, v = .slice a ((posN l kk i).length + 1) c ∧ (L 16 = false → Lg w (W.setCell ⟨b, 4 + kk, none⟩ v) b F 0 m (updP ps kk v) l (i + 1))
  | _ => True
/-- What the memory holds meanwhile. -/
def OG (pl : Nat) (X : Array Value) (w : World) (b f : Nat) (F : Value) (m : Int) (ps : Nat → Value) (l : List He) (i kk : Nat) : (Nat → Bool) → World → Prop := fun L W =>
  (L 16 = false → W.cell? ⟨pl, 0, none⟩ = some (.pointer (some ⟨b, 0, none⟩)) ∧ Ek W f X 27 ∧ Ek W b (lkC F 0 m ps) 56) ∧ (L 12 = false → Lg w W b F 0 m ps l i ∧ f < W.heap.size) ∧
  (L 16 = true → ∃ ps', Lg w W b F 0 m ps' l (i + 1)) ∧ (L 16 = true → ∀ j, j < 13 → L j = true) ∧ (L 12 = true → L 11 = true)
theorem upd_ne {L : Nat → Bool} {i j : Nat} (h : j ≠ i) : upd L i j = L j := by unfold upd; rw [if_neg h]
theorem og_upd {pl : Nat} {X : Array Value} {w : World} {b f : Nat} {F : Value} {m : Int} {ps : Nat → Value} {l : List He} {i kk : Nat} {L : Nat → Bool} {W : World} (j : Nat) (h12 : j ≠ 12) (h16 : j ≠ 16) (h : OG pl X w b f F m ps l i kk L W) : OG pl X w b f F m ps l i kk (upd L j) W := by
  unfold OG at *
  rw [upd_ne (Ne.symm h12), upd_ne (Ne.symm h16)]
  exact ⟨h.1, h.2.1, h.2.2.1, fun e k hk => upd_more (h.2.2.2.1 e k hk), fun e => upd_more (h.2.2.2.2 e)⟩
theorem og16 {pl : Nat} {X : Array Value} {w : World} {b f : Nat} {F : Value} {m : Int} {ps : Nat → Value} {l : List He} {i kk : Nat} {L : Nat → Bool} {W : World} (h : OG pl X w b f F m ps l i kk L W) {j : Nat} (hj : j < 13) (hL : L j = false) : L 16 = false := by
  cases e : L 16 with
  | false => rfl
  | true => rw [h.2.2.2.1 e j hj] at hL; cases hL
theorem og12 {pl : Nat} {X : Array Value} {w : World} {b f : Nat} {F : Value} {m : Int} {ps : Nat → Value} {l : List He} {i kk : Nat} {L : Nat → Bool} {W : World} (h : OG pl X w b f F m ps l i kk L W) (hL : L 11 = false) : L 12 = false := by
  cases e : L 12 with
  | false => rfl
  | true => rw [h.2.2.2.2 e] at hL; cases hL
theorem oth_upd {w : World} {b f : Nat} {F : Value} {m : Int} {ps : Nat → Value} {l : List He} {i kk : Nat} {L : Nat → Bool} {W : World} (x : Nat) (h12 : x ≠ 12) (h16 : x ≠ 16) : ∀ j u, OTh w b f F m ps l i kk L j u W → OTh w b f F m ps l i kk (upd L x) j u W := by
  intro j u h
  match j, h with
  | 0, h => exact h
  | 1, h => exact h
  | 2, h => exact h
  | 3, h => exact h
  | 4, h => exact h
  | 5, h => exact h
  | 6, h => exact h
  | 7, h => exact h
  | 8, h => exact h
  | 9, h => exact h
  | 10, h => exact h
  | 11, ⟨p, h1, h2⟩ => exact ⟨p, h1, fun e => h2 (by rwa [upd_ne (Ne.symm h12)] at e)⟩
  | 12, ⟨a, c, h1, h2⟩ => exact ⟨a, c, h1, fun e => h2 (by rwa [upd_ne (Ne.symm h16)] at e)⟩
  | 13, h => exact h
  | 14, h => exact h
  | 15, h => exact h
  | k + 16, h => trivial
/-- The values that do not hang on the memory. -/
theorem oth_pure {w : World} {b f : Nat} {F : Value} {m : Int} {ps : Nat → Value} {l : List He} {i kk : Nat} {L L' : Nat → Bool} {W W' : World} : ∀ j u, j ≠ 11 → j ≠ 12 → OTh w b f F m ps l i kk L j u W → OTh w b f F m ps l i kk L' j u W' := by
  intro j u h11 h12 h
  match j, h with
  | 0, h => exact h
  | 1, h => exact h
  | 2, h => exact h
  | 3, h => exact h
  | 4, h => exact h
  | 5, h => exact h
  | 6, h => exact h
  | 7, h => exact h
  | 8, h => exact h
  | 9, h => exact h
  | 10, h => exact h
  | 11, h => exact absurd rfl h11
  | 12, h => exact absurd rfl h12
  | 13, h => exact h
  | 14, h => exact h
  | 15, h => exact h
  | k + 16, h => trivial

set_option maxRecDepth 100000 in
set_option maxHeartbeats 4000000 in
theorem on1_any (pl b S : Nat) (a : Option Addr) (n c : Nat) (l : List He) (m : Int) (w : World) (hS : S ≤ b) (hSw : S ≤ w.heap.size) (hl : l.length = n) (hn : n ≤ 100000)
    (hpl : w.cell? ⟨pl, 0, none⟩ = some (.pointer (some ⟨b, 0, none⟩))) (hpb : pl ≠ b) (hb : Ek w b (lkC (.slice a n c) 0 m nilP) 56) (hF : Hid (∀ W, Below S w W → Hs W a n c l)) :
    Calls Try.prog 40 #[.pointer (some ⟨pl, 0, none⟩)] w fun e w' => e = .returned (.tuple #[]) ∧ ∃ ps, Lg w w' b (.slice a n c) 0 m ps l n := by
  have L0 := hide (show Lg w w b (.slice a n c) 0 m nilP l 0 from ⟨hb, fun k hk => ownZ_nil _ _, fun j k _ _ _ => .inl rfl, ⟨rfl, rfl, rfl, Nat.le_refl _, fun _ _ _ => rfl⟩, hb.lt⟩)
  have HPL := hide (show ∀ W, w.grownBy W (some b) → W.cell? ⟨pl, 0, none⟩ = some (.pointer (some ⟨b, 0, none⟩)) from fun W hW => by
    rw [World.cell?_of_block (a := ⟨pl, 0, none⟩) (hW.block pl (World.block_lt_of_cell? w _ hpl) (by intro e; exact hpb (Option.some.inj e)))]
    exact hpl)
  have HBE := hide (show ∀ W, w.grownBy W (some b) → Below S w W from fun W hW => (Below.refl S w).grown hW hSw (fun k hk => by cases hk; exact hS))
  have c0 : w.cell? ⟨b, 0, none⟩ = some (.slice a n c) := hb.cell rfl
  have hfr0 := hb.free 0
  have HL := hide hl
  have HLB := hide hb.lt
  have HPB := hide hpb
  clear hb hl hpb
  go_enter Try.func40, Try.ntmps40
  go_wp2_with fail
  go_loopw [8] (fun i wr => ∃ k : Nat, k ≤ n ∧ i = .int .i64 k ∧ Hid (∃ ps, Lg w wr b (.slice a n c) 0 m ps l k)) (fun i _ => n - (intOf i).toNat)
  case atStart => exact ⟨0, by omega, rfl, hide ⟨_, L0.out⟩⟩
  case round =>
    obtain ⟨i, hi, rfl, hst⟩ := hrel
    obtain ⟨ps, hlg⟩ := hst.out
    have G := hide hlg
    clear hst hlg L0 c0 hfr0 hpl
    by_cases hlt : i < n
    · obtain ⟨x, ab, off, hx, rfl, hok, x0, x1, x2, x3, x4⟩ := hs_at (hF.out wr (HBE.out wr G.out.g)) i hlt
      have p0 := HPL.out wr G.out.g
      have HLV := hide (show lv l i = x.L from lv_of hx)
      have hLr := hok.2.2.2.1
      have hqi : (i : Int) < (n : Int) := by omega
      obtain ⟨xN, xL, fa, fc, fz, ga, gc, gz, xM⟩ := x
      unfold hi64 at hLr
      simp only at x0 x1 x2 x3 x4 HLV hLr
      generalize fz.length = fl at *
      generalize gz.length = gl at *
      clear hx hok hF
      rcases (show xL < 0 ∨ (0 ≤ xL ∧ ¬ xL < 4) ∨ (∃ k : Nat, k < 4 ∧ xL = (k : Int)) from by
        by_cases h1 : xL < 0
        · exact .inl h1
        · by_cases h2 : xL < 4
          · exact .inr (.inr ⟨xL.toNat, by omega, by omega⟩)
          · exact .inr (.inl ⟨by omega, h2⟩)) with h | ⟨h, h'⟩ | ⟨kk, hkk, rfl⟩
      · have q : ¬ (xL ≥ 0) := by omega
        have hqq := hide h
        clear h
        have GS := hide (G.out.skip (fun k hk e => by rw [HLV.out] at e; have := hqq.out; omega))
        go_wp2
        go_roundw
        case rel => exact ⟨i + 1, by omega, by go_num, hide ⟨ps, GS.out.keep ((Below.refl _ wr).alloc (Nat.le_refl _) _)⟩⟩
        case measure => simp [intOf]; omega
      · have q : xL ≥ 0 := by omega
        have hqq := hide h'
        have GS := hide (G.out.skip (fun k hk e => by rw [HLV.out] at e; have := hqq.out; omega))
        go_wp2
        go_roundw
        case rel => exact ⟨i + 1, by omega, by go_num, hide ⟨ps, GS.out.keep ((Below.refl _ wr).alloc (Nat.le_refl _) _)⟩⟩
        case measure => simp [intOf]; omega
      · have q : ((kk : Int) ≥ 0) := by omega
        have q' : ((kk : Int) < 4) := by omega
        have HK := hide hkk
        have HE0 := hide (ek_new wr #[.int .i64 xN, .int .i64 (kk : Int), .slice fa fl fc, .slice ga gl gc, .int .i64 xM] 27)
        have HG0 := hide (G.out.keep ((Below.refl _ wr).alloc (Nat.le_refl _) (Obj.cells #[.int .i64 xN, .int .i64 (kk : Int), .slice fa fl fc, .slice ga gl gc, .int .i64 xM] 27)))
        have HOF := hide (show ∀ q, (ps kk).ownBlock = some q → q < wr.heap.size from fun q e => (World.ownsRow.lt (G.out.own kk HK.out) q e).2)
        have HFL := hide (show wr.heap.size < (wr.alloc (Obj.cells #[.int .i64 xN, .int .i64 (kk : Int), .slice fa fl fc, .slice ga gl gc, .int .i64 xM] 27)).heap.size by simp)
        clear hkk hLr
        go_wp2_with fail
        generalize wr.alloc (Obj.cells #[.int .i64 xN, .int .i64 (kk : Int), .slice fa fl fc, .slice ga gl gc, .int .i64 xM] 27) = wa at *
        generalize wr.heap.size = f at *
        refine region_si (OTh w b f (.slice (some ⟨ab, off, none⟩) n c) m ps l i kk) (OG pl #[.int .i64 xN, .int .i64 (kk : Int), .slice fa fl fc, .slice ga gl gc, .int .i64 xM] w b f (.slice (some ⟨ab, off, none⟩) n c) m ps l i kk) (by kernel_rfl) (by kernel_rfl) (by kernel_rfl) ?start ?step ?fin
        case start =>
          have hd := HG0.out.keep (Below.refl _ wa).drew
          exact ⟨fun _ => ⟨HPL.out _ hd.g, HE0.out.drew, hd.e⟩, fun _ => ⟨hd, HFL.out⟩, (fun h => by cases h), (fun h => by cases h), (fun h => by cases h)⟩
        case step =>
          intro L a W j hI hj hLj hw
          have hj2 : j < 17 := hj
          rcases (show j = 0 ∨ j = 1 ∨ j = 2 ∨ j = 3 ∨ j = 4 ∨ j = 5 ∨ j = 6 ∨ j = 7 ∨ j = 8 ∨ j = 9 ∨ j = 10 ∨ j = 11 ∨ j = 12 ∨ j = 13 ∨ j = 14 ∨ j = 15 ∨ j = 16 by omega) with rfl | rfl | rfl | rfl | rfl | rfl | rfl | rfl | rfl | rfl | rfl | rfl | rfl | rfl | rfl | rfl | rfl
          · have e0 := hI.kept 0 _ (by decide +kernel) rfl
            obtain ⟨k1, k2, k3⟩ := hI.g.1 (og16 hI.g (by decide) hLj)
            clear k2 k3
            refine hI.pure (by kernel_rfl) (by decide +kernel) (i := 0) (d := 21) rfl rfl rfl (v := .pointer (some ⟨b, 0, none⟩)) (rfl) (fun j u _ _ h => oth_upd 0 (by decide) (by decide) j u h) (og_upd 0 (by decide) (by decide) hI.g) ?_
            intro K hKK
            go_simp
            exact hKK
          · have e0 := hI.kept 2 _ (by decide +kernel) rfl
            refine hI.pure (by kernel_rfl) (by decide +kernel) (i := 1) (d := 22) rfl rfl rfl (v := .pointer (some ⟨f, 1, none⟩)) (rfl) (fun j u _ _ h => oth_upd 1 (by decide) (by decide) j u h) (og_upd 1 (by decide) (by decide) hI.g) ?_
            intro K hKK
            go_simp
            exact hKK
          · obtain ⟨_, e0, rfl⟩ := hI.val 1 22 (by decide +kernel) (hw 1 (by kernel_rfl)) (by kernel_rfl)
            obtain ⟨k1, k2, k3⟩ := hI.g.1 (og16 hI.g (by decide) hLj)
            have k4 : W.cell? ⟨f, 1, none⟩ = some (.int .i64 (kk : Int)) := k2.cell rfl
            clear k1 k2 k3
            refine hI.pure (by kernel_rfl) (by decide +kernel) (i := 2) (d := 23) rfl rfl rfl (v := .int .i64 (kk : Int)) (rfl) (fun j u _ _ h => oth_upd 2 (by decide) (by decide) j u h) (og_upd 2 (by decide) (by decide) hI.g) ?_
            intro K hKK
            go_simp
            exact hKK
          · have e0 := hI.kept 0 _ (by decide +kernel) rfl
            obtain ⟨k1, k2, k3⟩ := hI.g.1 (og16 hI.g (by decide) hLj)
            clear k2 k3
            refine hI.pure (by kernel_rfl) (by decide +kernel) (i := 3) (d := 24) rfl rfl rfl (v := .pointer (some ⟨b, 0, none⟩)) (rfl) (fun j u _ _ h => oth_upd 3 (by decide) (by decide) j u h) (og_upd 3 (by decide) (by decide) hI.g) ?_
            intro K hKK
            go_simp
            exact hKK
          · have e0 := hI.kept 2 _ (by decide +kernel) rfl
            refine hI.pure (by kernel_rfl) (by decide +kernel) (i := 4) (d := 25) rfl rfl rfl (v := .pointer (some ⟨f, 1, none⟩)) (rfl) (fun j u _ _ h => oth_upd 4 (by decide) (by decide) j u h) (og_upd 4 (by decide) (by decide) hI.g) ?_
            intro K hKK
            go_simp
            exact hKK
          · obtain ⟨_, e0, rfl⟩ := hI.val 4 25 (by decide +kernel) (hw 4 (by kernel_rfl)) (by kernel_rfl)
            obtain ⟨k1, k2, k3⟩ := hI.g.1 (og16 hI.g (by decide) hLj)
            have k4 : W.cell? ⟨f, 1, none⟩ = some (.int .i64 (kk : Int)) := k2.cell rfl
            clear k1 k2 k3
            refine hI.pure (by kernel_rfl) (by decide +kernel) (i := 5) (d := 26) rfl rfl rfl (v := .int .i64 (kk : Int)) (rfl) (fun j u _ _ h => oth_upd 5 (by decide) (by decide) j u h) (og_upd 5 (by decide) (by decide) hI.g) ?_
            intro K hKK
            go_simp
            exact hKK
          · obtain ⟨_, e0, rfl⟩ := hI.val 3 24 (by decide +kernel) (hw 3 (by kernel_rfl)) (by kernel_rfl)
            refine hI.pure (by kernel_rfl) (by decide +kernel) (i := 6) (d := 27) rfl rfl rfl (v := .pointer (some ⟨b, 0, none⟩)) (rfl) (fun j u _ _ h => oth_upd 6 (by decide) (by decide) j u h) (og_upd 6 (by decide) (by decide) hI.g) ?_
            intro K hKK
            go_simp
            exact hKK
          · obtain ⟨_, e0, rfl⟩ := hI.val 6 27 (by decide +kernel) (hw 6 (by kernel_rfl)) (by kernel_rfl)
            refine hI.pure (by kernel_rfl) (by decide +kernel) (i := 7) (d := 28) rfl rfl rfl (v := .pointer (some ⟨b, 4, none⟩)) (rfl) (fun j u _ _ h => oth_upd 7 (by decide) (by decide) j u h) (og_upd 7 (by decide) (by decide) hI.g) ?_
            intro K hKK
            go_simp
            exact hKK
          · obtain ⟨_, e0, rfl⟩ := hI.val 7 28 (by decide +kernel) (hw 7 (by kernel_rfl)) (by kernel_rfl)
            obtain ⟨_, e1, rfl⟩ := hI.val 5 26 (by decide +kernel) (hw 5 (by kernel_rfl)) (by kernel_rfl)
            refine hI.pure (by kernel_rfl) (by decide +kernel) (i := 8) (d := 29) rfl rfl rfl (v := .pointer (some ⟨b, 4 + kk, none⟩)) (rfl) (fun j u _ _ h => oth_upd 8 (by decide) (by decide) j u h) (og_upd 8 (by decide) (by decide) hI.g) ?_
            intro K hKK
            go_simp
            exact hKK
          · obtain ⟨_, e0, rfl⟩ := hI.val 8 29 (by decide +kernel) (hw 8 (by kernel_rfl)) (by kernel_rfl)
            obtain ⟨k1, k2, k3⟩ := hI.g.1 (og16 hI.g (by decide) hLj)
            have k4 : W.cell? ⟨b, 4 + kk, none⟩ = some (ps kk) := k3.cell (lkC_at _ _ _ _ kk HK.out)
            clear k1 k2 k3
            refine hI.pure (by kernel_rfl) (by decide +kernel) (i := 9) (d := 30) rfl rfl rfl (v := ps kk) (rfl) (fun j u _ _ h => oth_upd 9 (by decide) (by decide) j u h) (og_upd 9 (by decide) (by decide) hI.g) ?_
            intro K hKK
            go_simp
            exact hKK
          · have e0 := hI.kept 1 _ (by decide +kernel) rfl
            refine hI.pure (by kernel_rfl) (by decide +kernel) (i := 10) (d := 31) rfl rfl rfl (v := .int .i64 (i : Int)) (rfl) (fun j u _ _ h => oth_upd 10 (by decide) (by decide) j u h) (og_upd 10 (by decide) (by decide) hI.g) ?_
            intro K hKK
            go_simp
            exact hKK
          · obtain ⟨_, e0, rfl⟩ := hI.val 10 31 (by decide +kernel) (hw 10 (by kernel_rfl)) (by kernel_rfl)
            have h12 := og12 hI.g hLj
            refine hI.more (by kernel_rfl) (by decide +kernel) (i := 11) (d := 32) rfl rfl rfl ?_
            intro K hKK
            have hbl := (Below.refl _ W).alloc (Nat.le_refl _) (Obj.cells #[.int .i64 (i : Int)] 3)
            obtain ⟨g1, g2⟩ := hI.g.2.1 h12
            obtain ⟨k1, k2, k3⟩ := hI.g.1 (og16 hI.g (by decide) hLj)
            have g3 := g1.keep hbl
            have hR := hKK (.slice (some ⟨W.heap.size, 0, none⟩) 1 1) _ ⟨_, rfl, fun _ => ek_new W #[.int .i64 (i : Int)] 3⟩ (fun j u hne hLu h => by
              by_cases e12 : j = 12
              · subst e12; rw [h12] at hLu; cases hLu
              · exact oth_pure j u hne e12 h) (og_upd 11 (by decide) (by decide) ⟨fun _ => ⟨HPL.out _ g3.g, k2.below hbl k2.lt, g3.e⟩, fun _ => ⟨g3, Nat.lt_of_lt_of_le g2 hbl.size⟩, fun h => (by have := og16 hI.g (j := 11) (by decide) hLj; rw [this] at h; cases h), hI.g.2.2.2.1, hI.g.2.2.2.2⟩)
            clear hKK g1 g2 g3 k1 k2 k3 hbl
            go_simp
            exact hR
          · obtain ⟨_, e0, rfl⟩ := hI.val 9 30 (by decide +kernel) (hw 9 (by kernel_rfl)) (by kernel_rfl)
            obtain ⟨_, e1, pp, rfl, hek⟩ := hI.val 11 32 (by decide +kernel) (hw 11 (by kernel_rfl)) (by kernel_rfl)
            refine hI.more (by kernel_rfl) (by decide +kernel) (i := 12) (d := 33) rfl rfl rfl ?_
            intro K hKK
            obtain ⟨g1, g2⟩ := hI.g.2.1 hLj
            have h16 := og16 hI.g (j := 12) (by decide) hLj
            obtain ⟨k1, k2, k3⟩ := hI.g.1 h16
            refine oper_append_zz (.tmp 30) (.tmp 32) rfl w.heap.size (ps kk) (zn (posN l kk i)) (by simp [Act.eval, e0]) (g1.own kk HK.out) pp (i : Int) (by simp [Act.eval, e1]) (hek hLj) (by rw [zn_len]; have := posN_len l kk i; omega) g1.g.size ?_
            intro v8 w8 o8 g8 a8
            have H8 := g1.app (k := kk) HK.out HLV.out o8 g8 a8
            obtain ⟨sa, sc, rfl⟩ := ownZ_slice o8
            refine hKK _ w8 ⟨sa, sc, by simp [zn], fun _ => H8.2⟩ (fun j u hne hLu h => ?_) ⟨fun _ => ⟨HPL.out w8 H8.1.2, k2.gb g8 (fun e => by have := HOF.out _ e.symm; omega), H8.1.1⟩, (fun h => by rw [upd_same] at h; cases h), (fun h => by rw [upd_ne (by decide), h16] at h; cases h), (fun h => by rw [upd_ne (by decide), h16] at h; cases h), fun _ => upd_more (hw 11 (by kernel_rfl))⟩
            by_cases e11 : j = 11
            · subst e11
              obtain ⟨p, h1, h2⟩ := h
              exact ⟨p, h1, fun h => by rw [upd_same] at h; cases h⟩
            · exact oth_pure j u e11 hne h
          · obtain ⟨_, e0, rfl⟩ := hI.val 0 21 (by decide +kernel) (hw 0 (by kernel_rfl)) (by kernel_rfl)
            refine hI.pure (by kernel_rfl) (by decide +kernel) (i := 13) (d := 34) rfl rfl rfl (v := .pointer (some ⟨b, 0, none⟩)) (rfl) (fun j u _ _ h => oth_upd 13 (by decide) (by decide) j u h) (og_upd 13 (by decide) (by decide) hI.g) ?_
            intro K hKK
            go_simp
            exact hKK
          · obtain ⟨_, e0, rfl⟩ := hI.val 13 34 (by decide +kernel) (hw 13 (by kernel_rfl)) (by kernel_rfl)
            refine hI.pure (by kernel_rfl) (by decide +kernel) (i := 14) (d := 35) rfl rfl rfl (v := .pointer (some ⟨b, 4, none⟩)) (rfl) (fun j u _ _ h => oth_upd 14 (by decide) (by decide) j u h) (og_upd 14 (by decide) (by decide) hI.g) ?_
            intro K hKK
            go_simp
            exact hKK
          · obtain ⟨_, e0, rfl⟩ := hI.val 14 35 (by decide +kernel) (hw 14 (by kernel_rfl)) (by kernel_rfl)
            obtain ⟨_, e1, rfl⟩ := hI.val 2 23 (by decide +kernel) (hw 2 (by kernel_rfl)) (by kernel_rfl)
            refine hI.pure (by kernel_rfl) (by decide +kernel) (i := 15) (d := 36) rfl rfl rfl (v := .pointer (some ⟨b, 4 + kk, none⟩)) (rfl) (fun j u _ _ h => oth_upd 15 (by decide) (by decide) j u h) (og_upd 15 (by decide) (by decide) hI.g) ?_
            intro K hKK
            go_simp
            exact hKK
          · obtain ⟨_, e0, rfl⟩ := hI.val 15 36 (by decide +kernel) (hw 15 (by kernel_rfl)) (by kernel_rfl)
            obtain ⟨_, e1, sa, sc, rfl, hlg⟩ := hI.val 12 33 (by decide +kernel) (hw 12 (by kernel_rfl)) (by kernel_rfl)
            have hwa : ∀ k, k < 13 → L k = true := fun k hk => hw k (waits_all (n := 13) (by kernel_rfl) k hk)
            refine hI.store (i := 16) (by decide +kernel) rfl rfl rfl ?_
            intro K hKK
            obtain ⟨k1, k2, k3⟩ := hI.g.1 hLj
            have k4 : W.cell? ⟨b, 4 + kk, none⟩ = some (ps kk) := k3.cell (lkC_at _ _ _ _ kk HK.out)
            have k5 : W.frozen? ⟨b, 4 + kk, none⟩ = false := k3.free _
            have h12 : L 12 = true := hw 12 (by kernel_rfl)
            have hR := hKK (W.setCell ⟨b, 4 + kk, none⟩ (.slice sa ((posN l kk i).length + 1) sc)) (fun j e u hne hLu _ _ h => by
              by_cases e11 : j = 11
              · subst e11
                obtain ⟨p, h1, h2⟩ := h
                exact ⟨p, h1, fun h => by rw [upd_ne (by decide), h12] at h; cases h⟩
              · by_cases e12 : j = 12
                · subst e12
                  obtain ⟨p, c, h1, h2⟩ := h
                  exact ⟨p, c, h1, fun h => by rw [upd_same] at h; cases h⟩
                · exact oth_pure j u e11 e12 h) ⟨(fun h => by rw [upd_same] at h; cases h), (fun h => by rw [upd_ne (by decide), h12] at h; cases h), fun _ => ⟨_, hlg hLj⟩, fun _ k hk => upd_more (hwa k hk), fun _ => upd_more (hw 11 (by kernel_rfl))⟩
            clear hKK k1 k2 k3 hlg hwa
            go_simp
            exact hR
        case fin =>
          intro L a W hI hall
          obtain ⟨_, s0, rfl⟩ := hI.val 0 21 (by decide +kernel) (hall 0 (by decide +kernel)) (by kernel_rfl)
          obtain ⟨_, s1, rfl⟩ := hI.val 1 22 (by decide +kernel) (hall 1 (by decide +kernel)) (by kernel_rfl)
          obtain ⟨_, s2, rfl⟩ := hI.val 2 23 (by decide +kernel) (hall 2 (by decide +kernel)) (by kernel_rfl)
          obtain ⟨_, s3, rfl⟩ := hI.val 3 24 (by decide +kernel) (hall 3 (by decide +kernel)) (by kernel_rfl)
          obtain ⟨_, s4, rfl⟩ := hI.val 4 25 (by decide +kernel) (hall 4 (by decide +kernel)) (by kernel_rfl)
          obtain ⟨_, s5, rfl⟩ := hI.val 5 26 (by decide +kernel) (hall 5 (by decide +kernel)) (by kernel_rfl)
          obtain ⟨_, s6, rfl⟩ := hI.val 6 27 (by decide +kernel) (hall 6 (by decide +kernel)) (by kernel_rfl)
          obtain ⟨_, s7, rfl⟩ := hI.val 7 28 (by decide +kernel) (hall 7 (by decide +kernel)) (by kernel_rfl)
          obtain ⟨_, s8, rfl⟩ := hI.val 8 29 (by decide +kernel) (hall 8 (by decide +kernel)) (by kernel_rfl)
          obtain ⟨_, s9, rfl⟩ := hI.val 9 30 (by decide +kernel) (hall 9 (by decide +kernel)) (by kernel_rfl)
          obtain ⟨_, s10, rfl⟩ := hI.val 10 31 (by decide +kernel) (hall 10 (by decide +kernel)) (by kernel_rfl)
          obtain ⟨_, s11, p11, rfl, _⟩ := hI.val 11 32 (by decide +kernel) (hall 11 (by decide +kernel)) (by kernel_rfl)
          obtain ⟨_, s12, a12, c12, rfl, _⟩ := hI.val 12 33 (by decide +kernel) (hall 12 (by decide +kernel)) (by kernel_rfl)
          obtain ⟨_, s13, rfl⟩ := hI.val 13 34 (by decide +kernel) (hall 13 (by decide +kernel)) (by kernel_rfl)
          obtain ⟨_, s14, rfl⟩ := hI.val 14 35 (by decide +kernel) (hall 14 (by decide +kernel)) (by kernel_rfl)
          obtain ⟨_, s15, rfl⟩ := hI.val 15 36 (by decide +kernel) (hall 15 (by decide +kernel)) (by kernel_rfl)
          have hfr := si_frame hI [(21, .pointer (some ⟨b, 0, none⟩)), (22, .pointer (some ⟨f, 1, none⟩)), (23, .int .i64 (kk : Int)), (24, .pointer (some ⟨b, 0, none⟩)), (25, .pointer (some ⟨f, 1, none⟩)), (26, .int .i64 (kk : Int)), (27, .pointer (some ⟨b, 0, none⟩)), (28, .pointer (some ⟨b, 4, none⟩)), (29, .pointer (some ⟨b, 4 + kk, none⟩)), (30, ps kk), (31, .int .i64 (i : Int)), (32, .slice (some ⟨p11, 0, none⟩) 1 1), (33, .slice a12 ((posN l kk i).length + 1) c12), (34, .pointer (some ⟨b, 0, none⟩)), (35, .pointer (some ⟨b, 4, none⟩)), (36, .pointer (some ⟨b, 4 + kk, none⟩))] (by kernel_rfl) (List.forall_mem_cons.2 ⟨s0, List.forall_mem_cons.2 ⟨s1, List.forall_mem_cons.2 ⟨s2, List.forall_mem_cons.2 ⟨s3, List.forall_mem_cons.2 ⟨s4, List.forall_mem_cons.2 ⟨s5, List.forall_mem_cons.2 ⟨s6, List.forall_mem_cons.2 ⟨s7, List.forall_mem_cons.2 ⟨s8, List.forall_mem_cons.2 ⟨s9, List.forall_mem_cons.2 ⟨s10, List.forall_mem_cons.2 ⟨s11, List.forall_mem_cons.2 ⟨s12, List.forall_mem_cons.2 ⟨s13, List.forall_mem_cons.2 ⟨s14, List.forall_mem_cons.2 ⟨s15, List.forall_mem_nil _⟩⟩⟩⟩⟩⟩⟩⟩⟩⟩⟩⟩⟩⟩⟩⟩)
          obtain ⟨ps2, hlg⟩ := hI.g.2.2.1 (hall 16 (by decide +kernel))
          have HLG := hide hlg
          rw [hfr]
          clear hfr hI hall hlg s0 s1 s2 s3 s4 s5 s6 s7 s8 s9 s10 s11 s12 s13 s14 s15
          simp only [List.foldl, List.setIfInBounds_toArray, List.set_cons_zero, List.set_cons_succ]
          go_wp2
          go_roundw
          case rel => exact ⟨i + 1, by omega, by go_num, hide ⟨ps2, HLG.out⟩⟩
          case measure => simp [intOf]; omega
    · obtain rfl : i = n := by omega
      have hqi : ¬ ((i : Int) < (i : Int)) := by omega
      go_wp2
      go_end0
      exact ⟨rfl, ps, G.out⟩

end Go.Proofs.Ytcbphalhjajapaa.Clep
