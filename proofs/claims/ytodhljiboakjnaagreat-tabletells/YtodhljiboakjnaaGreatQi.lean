/- What All does when called. Conditions: the Table lies in memory as said. -/
import Derived.Test.YtodhljiboakjnaaGreatQh
import Derived.Laws.MakeOwn
namespace Go.Proofs.YtodhljiboakjnaaGreat.Clep
open Go.RowKit
set_option linter.unusedVariables false

theorem is_cells {w : World} {ao : Option Addr} {len cap : Nat} {m : List It} (hb : Is w ao len cap m) : ∀ ad, ao = some ad → ∀ j u, (cvs m)[j]? = some u → w.cell? (ad.add j) = some u := by
  intro ad had j u hu
  have hj : j < m.length * 5 := by rw [← cvs_len]; exact (List.getElem?_eq_some_iff.1 hu).1
  obtain ⟨b, off, e0, hc⟩ := hb.2.2.2 (by have := hb.1; omega)
  rw [e0] at had
  cases had
  obtain ⟨y, hy⟩ : ∃ y, m[j / 5]? = some y := ⟨_, List.getElem?_eq_getElem (by omega)⟩
  have e : j = j / 5 * 5 + j % 5 := by omega
  rw [e, cvs_get m (j / 5) (j % 5) y hy (by omega)] at hu
  have g := hc (j / 5) y hy
  unfold Vt Vi at g
  rw [add_plain]
  have hm : j % 5 = 0 ∨ j % 5 = 1 ∨ j % 5 = 2 ∨ j % 5 = 3 ∨ j % 5 = 4 := by omega
  rw [show off + j = off + j / 5 * 5 + j % 5 from by omega]
  rcases hm with hm | hm | hm | hm | hm <;> rw [hm] at hu ⊢ <;> simp [cv] at hu <;> subst hu
  · exact g.1
  · exact g.2.1
  · exact g.2.2.1
  · exact g.2.2.2.1
  · exact g.2.2.2.2
theorem cvs_one (m : List It) : ∀ u ∈ cvs m, u.oneCell' = true := by
  intro u hu
  obtain ⟨y, _, hy⟩ := List.mem_flatMap.1 hu
  simp only [cv, List.mem_cons, List.not_mem_nil, or_false] at hy
  rcases hy with rfl | rfl | rfl | rfl | rfl <;> rfl
/-- The items of the first j blocks are laid. -/
structure Al (w w2 wr : World) (G n : Nat) (l : List It) (j : Nat) : Prop where
  ch : Ch (fun b => b = G ∨ w2.heap.size ≤ b) w2 wr
  own : wr.ownsRow w.heap.size 25 5 (.slice (some ⟨G, 0, none⟩) (l.take (j * 20)).length n) (l.take (j * 20)).length (cvs (l.take (j * 20)))
set_option maxRecDepth 100000 in
set_option maxHeartbeats 2000000 in
theorem tall_any (w : World) (M d : Nat) (B : Nat → Prop) (l : List It) (h : Tb w M B d l) :
    Calls Tryz.prog 17 #[.pointer (some ⟨M, 0, none⟩)] w fun e w' => ∃ a c, e = .returned (.slice a l.length c) ∧ Is w' a l.length c l ∧ c ≤ 9223372036854775807 ∧ Tb w' M (Mo w w' B) 1 l ∧ Ch (fun b => b = M) w w' := by
  obtain ⟨n, hn⟩ : ∃ n, l.length = n := ⟨_, rfl⟩
  have hn2 : n ≤ 2000 := by rw [← hn]; exact h.ok.len
  have g0 : w.cell? ⟨M, 0, none⟩ = some (.int .i64 (n : Int)) := by
    obtain ⟨ok, bas, lt, a1, c1, F, D, bd, mk, k1, -⟩ := h
    rw [← hn]; exact k1.cell rfl
  obtain ⟨iI, hiI, hz0, hz1, hz2⟩ := info_parts infoI
  obtain ⟨w1, hmk, ho1, hg1⟩ := run_make_own (P := Tryz.prog) w w.heap.size 22 25 iI _ 5 Tryz.underlying22 hiI hz0 hz1 .i64 .i64 n (by rw [hz2]; omega) (by unfold maxLen; omega) (Nat.le_refl _)
  have A1 : Below w.heap.size w w1 := (Below.refl _ w).grown hg1 (Nat.le_refl _) (by simp)
  have hs1 := (World.ownsRow.lt ho1 w.heap.size rfl).2
  have AA := hide A1
  have HS1 := hide hs1
  have HO1 := hide ho1
  have HB := hide h.lt
  have HOK := hide h.ok
  have HM : Hid (M < w.heap.size) := hide (h.lt M h.base)
  have hO := hide (open_any w1 M d B l (h.keep A1))
  obtain ⟨N, hN⟩ : ∃ N, nb l = N := ⟨_, rfl⟩
  have HN := hide hN
  rw [hN] at hO
  have hN100 : N ≤ 100 := by rw [← hN]; exact nb_le h.ok.len
  have HLn := hide hn
  rw [hn]
  clear h A1 ho1 hg1 hs1 hN hn
  go_enter Tryz.func17, Tryz.ntmps17
  go_wp2_with fail
  obtain ⟨G, hG⟩ : ∃ G, G = w.heap.size := ⟨_, rfl⟩
  have HG := hide hG
  rw [← hG] at HO1 HS1 ⊢
  clear hG
  refine hO.out.mono ?_
  rintro e w2 ⟨am, cm, rfl, hmk2, htb, hc2⟩
  have HA0 : Hid (Al w w2 w2 G n l 0) := hide ⟨Ch.of (Below.refl _ _), by
    simp only [Nat.zero_mul, List.take_zero, List.length_nil]
    rw [← HG.out]
    refine World.ownsRow.kept HO1.out (ch_gb hc2) (.inr fun e => ?_)
    have h1 : G = M := by simpa [Value.ownBlock] using e
    have := HM.out; have := HG.out
    omega⟩
  have HMK := hide hmk2
  have HTB := hide htb
  have C2 := hide hc2
  have HNP : Hid (∀ b, Mo w1 w2 B b → ¬ (b = G ∨ w2.heap.size ≤ b)) := hide (fun b hb e => by
    have := HG.out; have := HS1.out
    rcases hb with hb | hb
    · have := HB.out b hb; have := AA.out.size; have := hc2.size; omega
    · omega)
  have HTk : Hid (∀ W, Ch (fun b => b = G ∨ w2.heap.size ≤ b) w2 W → Tb W M (Mo w1 w2 B) 1 l) := hide (fun W hW => HTB.out.ch hW HNP.out)
  have HMs : Hid (∀ W, Ch (fun b => b = G ∨ w2.heap.size ≤ b) w2 W → Ms W am N cm (mks l N)) := hide (fun W hW => by
    have := HMK.out.2.1.ch hW (fun x hx => HNP.out _ (HMK.out.2.2 x hx).1)
    rw [HN.out] at this; exact this)
  clear hO hmk2 htb hc2 hmk
  go_wp2_with fail
  go_loopw [3, 16] (fun v i wr => ∃ j m : Nat, j ≤ N ∧ i = .int .i64 j ∧ v = .slice (some ⟨G, 0, none⟩) m n ∧ Hid ((l.take (j * 20)).length = m) ∧ Hid (Al w w2 wr G n l j)) (fun _ i _ => N - (intOf i).toNat)
  case atStart => exact ⟨0, 0, by omega, rfl, rfl, hide (by simp), HA0⟩
  case round =>
    obtain ⟨j, m, hj, rfl, rfl, hm, hal⟩ := hrel
    by_cases hlt : j < N
    · obtain ⟨b, off, ea, hcell⟩ := (HMs.out _ hal.out.ch).2.2 (by omega)
      subst ea
      have hv := hcell j _ (mks_get hlt)
      obtain ⟨v5, hv⟩ := hv
      have hrow := hide (fun W (hW : Ch (fun b => b = G ∨ w2.heap.size ≤ b) w2 W) S K T V X => trow_any W M 1 _ l (HTk.out W hW) j (by rw [HN.out]; exact hlt) S K T V X)
      obtain ⟨p, hp⟩ : ∃ p, (bls l j).length = p := ⟨_, rfl⟩
      obtain ⟨nz, hnz⟩ : ∃ nz, (ck 20 l j).length = nz := ⟨_, rfl⟩
      rw [hp] at v5 hrow
      rw [hnz] at hrow
      generalize fi l j = x at *
      obtain ⟨S, K, T, V, X⟩ := x
      simp only at hv v5
      obtain ⟨v0, v1, v2, v3, v4⟩ := hv
      have A3 := (Below.refl _ wr).alloc (Nat.le_refl _) (Obj.cells #[.int .i64 (p : Int), .int .i64 S, .int .i64 K, .int .u64 T, .int .u64 V, .int .i64 X] 92)
      obtain ⟨w3, hw3⟩ : ∃ w3, w3 = wr.alloc (Obj.cells #[.int .i64 (p : Int), .int .i64 S, .int .i64 K, .int .u64 T, .int .u64 V, .int .i64 X] 92) := ⟨_, rfl⟩
      rw [← hw3] at A3
      have C3 := hide (hal.out.ch.trans (Ch.of A3))
      have HTS := hide (take_ck l j)
      have hml : m + nz ≤ n := by
        have h1 := congrArg List.length HTS.out
        rw [List.length_append, hm.out, hnz, List.length_take, HLn.out] at h1; omega
      have HNZ := hide hnz
      have AA3 := hide A3
      clear hcell A3 hp hnz
      go_wp2_with fail
      rw [← hw3]
      clear hw3
      refine (hrow.out _ C3.out _ _ _ _ _).mono ?_
      rintro e w4 ⟨a4, c4, rfl, hI4, hc4, hb4, -⟩
      have HO4 := hide (World.ownsRow.kept hal.out.own (gb_below (bmore AA3.out hb4) none) (.inr (by simp [Value.ownBlock])))
      rw [hm.out] at HO4
      have C4 := hide (C3.out.trans (Ch.of hb4))
      have HI4 := hide hI4
      clear hrow hI4 hb4 v0 v1 v2 v3 v4 v5
      go_wp2_with (first
        | (at_builtin; refine wpList_append_fits_any _ rfl _ _ 22 rfl w.heap.size 25 iI 5 Tryz.underlying22 hiI hz1 G m n (cvs (l.take (j * 20))) rfl HO4.out a4 nz c4 (cvs (ck 20 l j)) rfl ?e1 ?e2 ?e3 ?e4 ?e5 ?_)
        | fail)
      case e1 => rw [cvs_len, HNZ.out]
      case e2 => exact fun e => (HI4.out.2.1.2 e)
      case e3 => exact is_cells HI4.out
      case e4 => exact cvs_one _
      case e5 => exact hml
      intro w5 ho5 hg5
      have HX : Hid (Al w w2 w5 G n l (j + 1)) := hide ⟨C4.out.trans ⟨hg5.os, hg5.tape, hg5.output, hg5.size, fun k hk hp => hg5.block k hk (fun e => hp (.inl (by injection e)))⟩, by
        rw [← HTS.out, List.length_append, hm.out, HNZ.out, show cvs (l.take (j * 20) ++ ck 20 l j) = cvs (l.take (j * 20)) ++ cvs (ck 20 l j) from by simp [cvs]]
        exact ho5⟩
      clear ho5 hg5
      go_wp2
      go_roundw
      case rel => exact ⟨j + 1, m + nz, by omega, by go_num, rfl, hide (by rw [← HTS.out, List.length_append, hm.out, HNZ.out]), HX⟩
      case measure => simp [intOf]; omega
    · obtain rfl : j = N := by omega
      have hl : Hid (l.take (j * 20) = l) := hide (by
        have := mt (nb_lt (l := l) (j := j)).2 (by rw [HN.out]; omega)
        exact List.take_of_length_le (by omega))
      have hmn : m = n := by rw [← hm.out, hl.out]; exact HLn.out
      subst hmn
      go_wp2
      go_ret
      have hch : Ch (fun b => b = M) w wr := by
        have c1 := (Ch.of (P := fun b => b = M) AA.out).trans C2.out
        refine ⟨hal.out.ch.os.trans c1.os, hal.out.ch.tape.trans c1.tape, hal.out.ch.output.trans c1.output, Nat.le_trans c1.size hal.out.ch.size, fun k hk hp => ?_⟩
        rw [hal.out.ch.block k (Nat.lt_of_lt_of_le hk c1.size) (by have := HG.out; have := c1.size; omega)]
        exact c1.block k hk hp
      have hown := hal.out.own
      rw [hl.out, HLn.out] at hown
      have hOI : OwnI wr w.heap.size (.slice (some ⟨G, 0, none⟩) m m) l := by unfold OwnI; rw [HLn.out]; exact hown
      obtain ⟨a9, c9, e9, hc9, hI9, -⟩ := ownI_is hOI HOK.out.wf
      rw [HLn.out] at e9 hI9
      refine ⟨a9, c9, by rw [← e9]; rfl, hI9, hc9, (HTk.out _ hal.out.ch).mo AA.out.size hal.out.ch.size (fun b hb => Nat.lt_of_lt_of_le (HB.out b hb) hch.size), hch⟩

end Go.Proofs.YtodhljiboakjnaaGreat.Clep
