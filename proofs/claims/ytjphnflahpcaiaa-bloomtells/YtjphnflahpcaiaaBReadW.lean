/- What Read does when called: for any bytes. No conditions but the kinds' bounds. -/
import Derived.Test.YtjphnflahpcaiaaBRead
namespace Go.Proofs.Ytjphnflahpcaiaa.Clep
open Go.RowKit
set_option linter.unusedVariables false

/-- The bytes are a Filter. -/
def FrOk (zs : List Int) (k sz N : Nat) : Prop := ∃ a b : Nat, Hd zs k sz a b ∧ a + b ≤ 20 ∧ (1 ≤ k ∧ k ≤ 14) ∧ (8 ≤ sz ∧ sz ≤ 25000) ∧ zs.length = a + b + sz ∧ N = rv (zs.drop (a + b))
/-- They are refused with error x. -/
def FrBad (zs : List Int) (x : Int) : Prop := HdBad zs x ∨ ∃ (k n : Int) (a b : Nat), Hd zs k n a b ∧ a + b ≤ 20 ∧ a + b ≤ zs.length ∧ (0 ≤ k ∧ k ≤ 18446744073709551615) ∧ (0 ≤ n ∧ n ≤ 18446744073709551615) ∧
  ((x = 3 ∧ (k < 1 ∨ 14 < k ∨ n < 8 ∨ 25000 < n)) ∨ ((1 ≤ k ∧ k ≤ 14) ∧ (8 ≤ n ∧ n ≤ 25000) ∧ ((x = 4 ∧ ((zs.length - (a + b) : Nat) : Int) < n) ∨ (x = 3 ∧ n < ((zs.length - (a + b) : Nat) : Int)))))
theorem FrBad.ne {zs : List Int} {x : Int} (h : FrBad zs x) : x ≠ 0 := by
  rcases h with h | ⟨k, n, a, b, _, _, _, _, _, h | ⟨_, _, h | h⟩⟩
  · exact h.1
  · omega
  · omega
  · omega
theorem fr_cases (zs : List Int) (hz : ∀ z ∈ zs, 0 ≤ z ∧ z < 256) : (∃ x, FrBad zs x) ∨ ∃ k sz N, FrOk zs k sz N := by
  rcases hd_cases zs hz with ⟨x, hx⟩ | ⟨k, n, a, b, hd, h1, h2, h3, h4, h5, h6⟩
  · exact .inl ⟨x, .inl hx⟩
  · by_cases hr : k < 1 ∨ 14 < k ∨ n < 8 ∨ 25000 < n
    · exact .inl ⟨3, .inr ⟨k, n, a, b, hd, h6, h5, ⟨h1, h2⟩, ⟨h3, h4⟩, .inl ⟨rfl, hr⟩⟩⟩
    · by_cases ht : ((zs.length - (a + b) : Nat) : Int) < n
      · exact .inl ⟨4, .inr ⟨k, n, a, b, hd, h6, h5, ⟨h1, h2⟩, ⟨h3, h4⟩, .inr ⟨by omega, by omega, .inl ⟨rfl, ht⟩⟩⟩⟩
      · by_cases ho : n < ((zs.length - (a + b) : Nat) : Int)
        · exact .inl ⟨3, .inr ⟨k, n, a, b, hd, h6, h5, ⟨h1, h2⟩, ⟨h3, h4⟩, .inr ⟨by omega, by omega, .inr ⟨rfl, ho⟩⟩⟩⟩
        · obtain ⟨K, rfl⟩ := Int.eq_ofNat_of_zero_le h1
          obtain ⟨S, rfl⟩ := Int.eq_ofNat_of_zero_le h3
          exact .inr ⟨K, S, _, a, b, hd, h6, by omega, by omega, by omega, rfl⟩
theorem FrOk.kb {zs : List Int} {k sz N : Nat} (h : FrOk zs k sz N) : 1 ≤ k ∧ k ≤ 14 := by obtain ⟨a, b, _, _, h, _⟩ := h; exact h
theorem FrOk.sb {zs : List Int} {k sz N : Nat} (h : FrOk zs k sz N) : 8 ≤ sz ∧ sz ≤ 25000 := by obtain ⟨a, b, _, _, _, h, _⟩ := h; exact h
theorem FrOk.nb {zs : List Int} {k sz N : Nat} (h : FrOk zs k sz N) (hz : ∀ z ∈ zs, 0 ≤ z ∧ z < 256) : N < 2 ^ (8 * sz) := by
  obtain ⟨a, b, _, _, _, _, h1, rfl⟩ := h
  have := rv_lt (zs.drop (a + b)) fun z q => hz z (List.mem_of_mem_drop q)
  rwa [List.length_drop, h1, show a + b + sz - (a + b) = sz by omega] at this

set_option maxRecDepth 100000 in
set_option maxHeartbeats 1600000 in
theorem read_bad (w : World) (ao : Option Addr) (len cap : Nat) (zs : List Int) (hm : len ≤ 9223372036854775807) (h : Bs w ao len cap zs) (x : Int) (hb : FrBad zs x) :
    Calls Try.prog 17 #[.slice ao len cap] w fun e w' => e = .returned (.tuple #[.pointer none, .int .i64 x]) ∧ Below w.heap.size w w' := by
  have hx := hb.ne
  rcases hb with hb | ⟨k, n, a, b, hd, h1, h2, h3, h4, h5⟩
  · have C1 := hide (head_bad w ao len cap zs hm h x hb)
    clear h hb
    go_enter Try.func17, Try.ntmps17
    go_wp2_with fail
    refine C1.out.mono ?_
    rintro e w1 ⟨rfl, rfl⟩
    go_wp2
    go_ret2
    exact ⟨rfl, Below.refl _ _⟩
  · rw [h.1] at h2 h5
    have C1 := hide (head_ok w ao len cap zs hm h k n a b hd h2 h1)
    generalize cut ao cap (a + b) = ac at *
    have hL : len - (a + b) ≤ 9223372036854775807 := by omega
    generalize len - (a + b) = L at *
    generalize cap - (a + b) = cc at *
    clear h hd hx
    rcases h5 with ⟨rfl, h5⟩ | ⟨⟨k1, k2⟩, ⟨n1, n2⟩, ⟨rfl, h5⟩ | ⟨rfl, h5⟩⟩
    · go_enter Try.func17, Try.ntmps17
      go_wp2_with fail
      refine C1.out.mono ?_
      rintro e w1 ⟨rfl, hb⟩
      have HB := hide hb
      clear hb
      by_cases q1 : k < 1
      · go_wp2
        go_ret2
        exact ⟨rfl, HB.out⟩
      · by_cases q2 : 14 < k
        · go_wp2
          go_ret2
          exact ⟨rfl, HB.out⟩
        · by_cases q3 : n < 8
          · go_wp2
            go_ret2
            exact ⟨rfl, HB.out⟩
          · have q4 : 25000 < n := by omega
            go_wp2
            go_ret2
            exact ⟨rfl, HB.out⟩
    · go_enter Try.func17, Try.ntmps17
      go_wp2_with fail
      refine C1.out.mono ?_
      rintro e w1 ⟨rfl, hb⟩
      have HB : Hid (∀ o, Below w.heap.size w (w1.alloc o)) := hide fun o => hb.alloc hb.size o
      clear hb
      go_wp2
      go_ret2
      exact ⟨rfl, HB.out _⟩
    · go_enter Try.func17, Try.ntmps17
      go_wp2_with fail
      refine C1.out.mono ?_
      rintro e w1 ⟨rfl, hb⟩
      have HB : Hid (∀ o, Below w.heap.size w (w1.alloc o)) := hide fun o => hb.alloc hb.size o
      clear hb
      go_wp2
      go_ret2
      exact ⟨rfl, HB.out _⟩

theorem Lf.lay {w : World} {M D k sz N c i : Nat} (h : Lf w M D k sz N) (hc : c < 256) (hp : i / 8 < nw sz) : Lf (w.setCell ⟨D, i / 8, none⟩ (.int .u64 ((wd N (i / 8) ||| c * 2 ^ (i % 8 * 8) : Nat) : Int))) M D k sz (N ||| c * 2 ^ (8 * i)) :=
  ⟨h.head.other _ _ (Ne.symm h.ne), by rw [← wv_lay N c i _ hc hp]; exact h.words.set _ _, h.ne⟩
theorem lay_lt64 (c i : Nat) (hc : c < 256) : c * 2 ^ (i % 8 * 8) < 18446744073709551616 := by
  have h1 : 2 ^ (i % 8 * 8) ≤ 2 ^ 56 := Nat.pow_le_pow_right (by decide) (by omega)
  have := Nat.mul_le_mul (show c ≤ 255 by omega) h1
  omega
set_option maxRecDepth 100000 in
set_option maxHeartbeats 1600000 in
theorem read_ok (w : World) (ao : Option Addr) (len cap : Nat) (zs : List Int) (hm : len ≤ 9223372036854775807) (h : Bs w ao len cap zs) (k sz N : Nat) (hb : FrOk zs k sz N) :
    Calls Try.prog 17 #[.slice ao len cap] w fun e w' => ∃ M, e = .returned (.tuple #[.pointer (some ⟨M, 0, none⟩), .int .i64 0]) ∧ ∃ D, Lf w' M D k sz N ∧ Below w.heap.size w w' ∧ w.heap.size ≤ M ∧ w.heap.size ≤ D := by
  obtain ⟨a, b, hd, h1, hk, hs, hlen, rfl⟩ := hb
  have C1 := hide (head_ok w ao len cap zs hm h k sz a b hd (by rw [← h.1]; omega) h1)
  have hl : len = a + b + sz := by rw [← h.1]; exact hlen
  have hcut := h.cut (a + b) len (by omega) (Nat.le_refl _)
  rw [show zs.take len = zs by rw [← h.1, List.take_length], show len - (a + b) = sz by omega] at hcut
  rw [show len - (a + b) = sz by omega] at C1
  have hr : Hid (∀ z ∈ zs.drop (a + b), 0 ≤ z ∧ z < 256) := hide (bs_range hcut)
  have hll := hide hcut.1
  obtain ⟨gb, go, hg, hcell⟩ := hcut.2.2.2 (by omega)
  rw [hg] at C1
  generalize zs.drop (a + b) = ls at *
  have hcc := hcut.2.1.1
  generalize cap - (a + b) = cc at *
  have HC : Hid (∀ W, Below w.heap.size w W → ∀ i, i < sz → W.cell? ⟨gb, go + i, none⟩ = some (.int .u8 (ls.getD i 0))) := hide fun W hW i hi => by
    rw [hW.cell (p := ⟨gb, go + i, none⟩) (World.block_lt_of_cell? w _ (hcell i hi))]; exact hcell i hi
  clear h hd hcut hcell hlen hl hg
  go_enter Try.func17, Try.ntmps17
  go_wp2_with fail
  refine C1.out.mono ?_
  rintro e w1 ⟨rfl, hb⟩
  have HB1 := hide hb
  have hA := (Below.refl _ w1).alloc (Nat.le_refl _) (Obj.cells (flV k sz 0 (.slice none 0 0)) 63)
  have hF : Fl (w1.alloc (Obj.cells (flV k sz 0 (.slice none 0 0)) 63)) w1.heap.size (fun b => b = w1.heap.size) k sz 0 := ⟨fun b e => by rw [e]; simp, rfl, hk, hs, Nat.two_pow_pos _, .inl ⟨hpS w1 _ _ rfl, rfl⟩⟩
  have C2 := laid_any _ _ _ k sz 0 hF
  have HA := hide hA
  obtain ⟨w2, hw2⟩ : ∃ w2, w2 = w1.alloc (Obj.cells (flV k sz 0 (.slice none 0 0)) 63) := ⟨_, rfl⟩
  rw [← hw2] at C2 HA
  obtain ⟨n, hn⟩ : ∃ n, nw sz = n := ⟨_, rfl⟩
  rw [hn] at C2
  have HN := hide hn
  have HC2 := hide C2
  have hc1 : w2.cell? ⟨w1.heap.size, 1, none⟩ = some (.int .i64 sz) := by rw [hw2]; exact Blk.cell (hpS w1 _ _ rfl) rfl
  replace hw2 : w2 = w1.alloc (Obj.cells #[.int .i64 k, .int .i64 sz, .int .u32 0, .int .i32 0, .int .u32 0, .slice none 0 0] 63) := hw2
  clear hb C1 hA hF C2 hn
  have HMs := hide (show w1.heap.size < w2.heap.size by rw [hw2]; simp)
  go_wp2_with fail
  rw [← hw2]
  clear hw2 hc1
  obtain ⟨M, hM⟩ : ∃ M, w1.heap.size = M := ⟨_, rfl⟩
  rw [hM] at HC2 HMs ⊢
  have HMe := hide hM
  clear hM
  refine HC2.out.mono ?_
  rintro e w3 ⟨D, rfl, hL, hD, hc⟩
  have HL := hide hL
  have HB3 : Hid (Below w1.heap.size w1 w3) := hide (HA.out.trans (hc.below HA.out.size fun i e => by rw [HMe.out, e]; exact Nat.le_refl _))
  have HD : Hid (w.heap.size ≤ D) := hide (by
    have h1 := HB1.out.size
    have h2 := HMs.out
    rcases hD with q | q
    · exact absurd q hL.ne
    · have := HMe.out; omega)
  have HMw : Hid (w.heap.size ≤ M) := hide (by rw [← HMe.out]; exact HB1.out.size)
  have HD1 : Hid (w1.heap.size ≤ D) := hide (by
    have h2 := HMs.out
    rcases hD with q | q
    · exact absurd q hL.ne
    · have := HMe.out; omega)
  clear hL hD hc HC2
  go_wp2
  go_loopw [60] (fun u wr => ∃ i : Nat, u = .int .i64 i ∧ i ≤ sz ∧ Hid (Lf wr M D k sz (rv (ls.take i))) ∧ Hid (Below w1.heap.size w1 wr)) (fun u _ => sz - (intOf u).toNat)
  case atStart => exact ⟨0, rfl, by omega, hide (by simpa [rv] using HL.out), HB3⟩
  case round =>
    obtain ⟨i, rfl, hi, hl, hbr⟩ := hrel
    by_cases hlt : i < sz
    · have cZ := HC.out wr (bmore HB1.out hbr.out) i hlt
      have hil : i < ls.length := by rw [hll.out]; exact hlt
      have hzr := hr.out (ls.getD i 0) (by simp [List.getD, List.getElem?_eq_getElem hil])
      obtain ⟨Z, hZ⟩ := Int.eq_ofNat_of_zero_le hzr.1
      rw [hZ] at cZ
      have hZ2 : Z < 256 := by omega
      have HS : Hid (rv (ls.take (i + 1)) = rv (ls.take i) ||| Z * 2 ^ (8 * i)) := hide (by
        have e1 : ls.take (i + 1) = ls.take i ++ [ls.getD i 0] := by rw [List.take_add_one]; simp [List.getD, List.getElem?_eq_getElem hil]
        rw [e1, rv_or _ _ (fun y hy => hr.out y (List.mem_of_mem_take hy)), hZ, List.length_take, Nat.min_eq_left (by omega)]
        rfl)
      have hp2 : i / 8 < nw sz := by unfold nw; omega
      have hp3 : i / 8 < n := by rw [← HN.out]; exact hp2
      have hnw : n ≤ 4000 := by rw [← HN.out]; unfold nw; omega
      have cD : wr.cell? ⟨D, i / 8, none⟩ = some (.int .u64 (wd (rv (ls.take i)) (i / 8) : Nat)) := hl.out.words.cell (wv_get _ _ _ hp2)
      have fD : wr.frozen? ⟨D, i / 8, none⟩ = false := hl.out.words.free _
      have hor := or_u64 (wd (rv (ls.take i)) (i / 8)) (Z * 2 ^ (i % 8 * 8)) (wd_lt _ _) (lay_lt64 Z i hZ2)
      rw [← wrap_to (z := (Z : Int) * 2 ^ (i % 8 * 8)) (by rw [Int.natCast_mul, Int.natCast_pow]; rfl) (lay_lt64 Z i hZ2)] at hor
      have HL4 := hide (hl.out.lay hZ2 hp2)
      generalize wd (rv (ls.take i)) (i / 8) = X at *
      generalize hY : X ||| Z * 2 ^ (i % 8 * 8) = Y at *
      clear hY hzr hZ hp2
      go_wp2
      go_region
      go_wp2
      go_round
      case rel => exact ⟨i + 1, by go_num, by omega, hide (by rw [HS.out]; exact HL4.out.keep (Below.refl _ _).drew), hide ((hbr.out.trans ((Ch.set (P := fun b => b = D) wr ⟨D, i / 8, none⟩ _ rfl).below hbr.out.size fun j e => by rw [e]; exact HD1.out)).drew)⟩
      case measure => simp [intOf]; omega
    · have h8 : i = sz := by omega
      subst h8
      go_wp2
      go_ret2
      exact ⟨M, rfl, D, by have := hl.out; rwa [List.take_of_length_le (by rw [hll.out]; exact Nat.le_refl _)] at this, bmore HB1.out hbr.out, HMw.out, HD.out⟩

end Go.Proofs.Ytjphnflahpcaiaa.Clep
