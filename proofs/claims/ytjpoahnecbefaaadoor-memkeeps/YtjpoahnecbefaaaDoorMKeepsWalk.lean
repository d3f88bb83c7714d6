/- MemKeeps: what a Mem is told, and what it tells, is no part of it, walked. Conditions: the table of math/bits reads as its initialiser lays it. -/
import Derived.Test.YtjpoahnecbefaaaDoorMItems
import Derived.Test.YtjpoahnecbefaaaDoorSLaw
namespace Go.Proofs.YtjpoahnecbefaaaDoor.Clep
open Go.RowKit
set_option linter.unusedVariables false

theorem mand8 (a : Int) : 0 ≤ bits .and .i64 a 255 ∧ bits .and .i64 a 255 ≤ 255 := by
  have e : bits .and .i64 a 255 = IntKind.i64.wrap ((BitVec.ofInt 64 a &&& BitVec.ofInt 64 255).toNat : Int) := rfl
  have hle : (BitVec.ofInt 64 a &&& BitVec.ofInt 64 255).toNat ≤ 255 := by
    rw [BitVec.toNat_and]; exact Nat.le_trans Nat.and_le_right (by decide)
  rw [e]
  generalize (BitVec.ofInt 64 a &&& BitVec.ofInt 64 255).toNat = k at *
  simp [IntKind.wrap, IntKind.bits, IntKind.signed]
  omega
theorem putAll_wf : ∀ (l : List It) (ws : List (It × Nat)), (∀ x ∈ l, x.wf) → (∀ x ∈ ws, x.1.wf) → ∀ x ∈ putAll l ws, x.1.wf
  | [], ws, _, h => h
  | x :: r, ws, hl, h => putAll_wf r _ (fun y hy => hl y (by simp [hy])) (fun y hy => by
    unfold putA at hy
    split at hy
    · have hm : y.1 ∈ ((putW x ((hgt x.S x.K x.T : Nat) : Int).toNat ws).2).map Prod.fst := List.mem_map_of_mem hy
      rw [putW_L] at hm
      rcases putL_mem x _ _ hm with e | e
      · rw [e]; exact hl x (by simp)
      · obtain ⟨z, hz, e⟩ := List.mem_map.1 e
        rw [← e]; exact h z hz
    · exact h y hy)
theorem putAll_pos {l : List It} (hl : 0 < l.length) (hok : l.all It.ok = true) : 0 < (putAll l []).length := by
  cases l with
  | nil => simp at hl
  | cons x r =>
    have hx : x.ok = true := List.all_eq_true.1 hok x (by simp)
    have h := hgt_le x.S x.K x.T
    have h1 : (putA x (hgt x.S x.K x.T : Nat) []).2.length = 1 := by
      unfold putA
      rw [if_pos ⟨hx, by omega, by omega⟩]
      rfl
    have := putAll_ge r (putA x (hgt x.S x.K x.T : Nat) []).2
    show 0 < (putAll r _).length
    omega

set_option maxRecDepth 100000 in
set_option maxHeartbeats 4000000 in
theorem keeps_any (ao : Option Addr) (len cap : Nat) (l : List It) (at_ : Int) (w : World) (h : Is w ao len cap l) (hm : len ≤ 9223372036854775807) (hTb : Tab w) :
    Calls Tryd.prog 3 #[.slice ao len cap, .int .i64 at_] w fun e w' => e = .returned (.bool true) ∧ Below w.heap.size w w' := by
  have hl := hide h.1
  have HWF := hide h.2.2.1
  have H0 := hide (fun W (hW : Below w.heap.size w W) => h.below hW (Nat.le_refl _))
  have T0 := hide hTb
  have h0w := hide hTb.lt
  have C1 := hide (mnew_h w)
  clear h hTb
  go_enter Tryd.func3, Tryd.ntmps3
  go_wp2_with fail
  refine C1.out.mono ?_
  rintro e w1 ⟨M, rfl, hm1, hb1⟩
  have HM1 := hide hm1
  have BB1 := hide hb1
  have T1 := hide (T0.out.keep hb1)
  clear hm1 hb1 C1
  by_cases hsz : len = 0 ∨ 60 < len
  · have HA := hide (mawake_any w1 T1.out)
    rcases hsz with hsz | hsz
    · subst hsz
      go_wp2_with fail
      refine HA.out.mono ?_
      rintro e w2 ⟨rfl, b2⟩
      have BB2 := hide (bmore BB1.out b2)
      clear b2
      go_wp2
      go_ret
      exact ⟨rfl, BB2.out⟩
    · have hs1 : ¬ ((len : Int) = 0) := by omega
      have hs2 : (60 : Int) < (len : Int) := by omega
      go_wp2_with fail
      refine HA.out.mono ?_
      rintro e w2 ⟨rfl, b2⟩
      have BB2 := hide (bmore BB1.out b2)
      clear b2
      go_wp2
      go_ret
      exact ⟨rfl, BB2.out⟩
  · have hs1 : ¬ ((len : Int) = 0) := by omega
    have hs2 : ¬ ((60 : Int) < (len : Int)) := by omega
    have hb1 : (((len : Nat) : Int) == 0) = false := by simp; omega
    have hb2 : decide ((60 : Int) < ((len : Nat) : Int)) = false := by simp; omega
    have hlp : 0 < len := by omega
    have hl60 : len ≤ 60 := by omega
    clear hsz
    have a2 := (Below.refl _ w1).alloc (Nat.le_refl _) (Obj.cells #[] 32)
    have k2 := hpS w1 (Obj.cells #[] 32) w1.heap.size rfl
    have O2 := hide (ownI_empty k2 (Nat.le_refl w1.heap.size))
    have I2 := hide (H0.out _ (bmore BB1.out a2))
    have A2 := hide a2
    clear a2 k2
    go_wp2_with (at_builtin; refine wpList_append_items rfl _ _ rfl w1.heap.size _ [] rfl O2.out ao len cap l rfl I2.out (by simp; omega) A2.out.size ?_; intro v3 w3 o3 g3 k3)
    have B3 := hide (A2.out.grown g3 A2.out.size k3)
    have BB3 := hide (bmore BB1.out B3.out)
    have M3 := hide (HM1.out.keep B3.out)
    have T3 := hide (T1.out.keep B3.out)
    rw [List.nil_append] at o3
    obtain ⟨g, cap3, rfl, hg1, hg2, hcap3, is3, fz3⟩ := own_form o3 HWF.out (by rw [hl.out]; exact hlp)
    rw [hl.out] at is3 ⊢
    have I3 := hide is3
    have FZ3 := hide fz3
    obtain ⟨P1, hP1⟩ : ∃ P : Nat → Prop, P = fun b => w.heap.size ≤ b ∧ b < w1.heap.size := ⟨_, rfl⟩
    rw [← hP1] at M3
    have HP1w : Hid (∀ b, P1 b → w.heap.size ≤ b) := hide fun b hb => by rw [hP1] at hb; exact hb.1
    have HP1l : Hid (∀ b, P1 b → b < w1.heap.size) := hide fun b hb => by rw [hP1] at hb; exact hb.2
    have C3 := hide (mapply_h w3 M P1 false [] (some ⟨g, 0, none⟩) len cap3 l M3.out is3 (by omega) (by simp) (fun _ x hx e => by cases hx; have := HP1l.out _ e; simp only at this; omega) T3.out (fun e => by have := HP1w.out _ e; have := h0w.out; omega))
    have hG1 := hide hg1
    have hG2 := hide hg2
    clear o3 g3 k3 is3 fz3 hP1 hg1 hg2 O2 I2 A2 HM1
    cases hok : l.all It.ok with
    | false =>
      rw [show applyE false l = 1 from by unfold applyE; rw [hok]; rfl, show applyW false l [] = [] from by unfold applyW; rw [hok]; rfl] at C3
      refine C3.out.mono ?_
      rintro e w4 ⟨rfl, hm4, hc4⟩
      have BB4 := hide (Below.ch BB3.out hc4 BB3.out.size HP1w.out)
      have T4 := hide (T3.out.ch hc4 (fun e => by have := HP1w.out _ e; have := h0w.out; omega))
      have CL := hide (mlen_h w4 M _ false [] hm4)
      have HA := hide (mawake_any w4 T4.out)
      clear hm4 hc4 C3 hok
      go_wp2_with fail
      refine CL.out.mono ?_
      rintro e w5 ⟨rfl, rfl⟩
      go_wp2_with fail
      refine HA.out.mono ?_
      rintro e w6 ⟨rfl, b6⟩
      have BB6 := hide (bmore BB4.out b6)
      clear b6
      go_wp2
      go_ret
      exact ⟨rfl, BB6.out⟩
    | true =>
      rw [show applyE false l = 0 from by unfold applyE; rw [hok]; rfl, show applyW false l [] = putAll l [] from by unfold applyW; rw [hok]; rfl] at C3
      have hpos := putAll_pos (l := l) (by rw [hl.out]; exact hlp) hok
      have hle := putAll_len l []
      have hwf := putAll_wf l [] HWF.out (by simp)
      generalize putAll l [] = ws at *
      obtain ⟨m, hm'⟩ : ∃ m, ws.map Prod.fst = m := ⟨_, rfl⟩
      have hmw : ∀ x ∈ m, x.wf := fun x hx => by rw [← hm'] at hx; obtain ⟨y, hy, rfl⟩ := List.mem_map.1 hx; exact hwf y hy
      have hmn : m.length = ws.length := by rw [← hm']; simp
      rw [hl.out, List.length_nil, Nat.zero_add] at hle
      refine C3.out.mono ?_
      rintro e w4 ⟨rfl, hm4, hc4⟩
      have BB4 := hide (Below.ch BB3.out hc4 BB3.out.size HP1w.out)
      have I4 := hide (I3.out.ch hc4 (fun _ x hx e => by cases hx; have := HP1l.out _ e; have := hG1.out; simp only at *; omega))
      have F4 := hide (show ∀ j, w4.frozen? ⟨g, j, none⟩ = false from fun j => (World.frozen?_of_block (a := ⟨g, j, none⟩) (hc4.block g hG2.out (fun e => by have := HP1l.out _ e; have := hG1.out; omega))).trans (FZ3.out j))
      have T4 := hide (T3.out.ch hc4 (fun e => by have := HP1w.out _ e; have := h0w.out; omega))
      obtain ⟨P4, hP4⟩ : ∃ P : Nat → Prop, P = fun b => P1 b ∨ w3.heap.size ≤ b ∧ b < w4.heap.size := ⟨_, rfl⟩
      rw [← hP4] at hm4
      have HP4w : Hid (∀ b, P4 b → w.heap.size ≤ b) := hide fun b hb => by rw [hP4] at hb; exact hb.elim (HP1w.out b) (fun e => by have := BB3.out.size; omega)
      have HP4g : Hid (¬ P4 g) := hide fun hb => by rw [hP4] at hb; exact hb.elim (fun e => by have := HP1l.out _ e; have := hG1.out; omega) (fun e => by have := hG2.out; omega)
      have hg4 := hide (show g < w4.heap.size from Nat.lt_of_lt_of_le hG2.out hc4.size)
      have hgw := hide (show w.heap.size ≤ g from Nat.le_trans BB1.out.size hG1.out)
      have HM4 := hide hm4
      have C4 := hide (mitems_ho w4 M P4 false ws hm4 (by omega) m hm')
      have HMW := hide hmw
      have HMM := hide hm'
      obtain ⟨n, hn⟩ : ∃ n, m.length = n := ⟨_, rfl⟩
      have hn0 : 0 < n := by omega
      have hn60 : n ≤ 60 := by omega
      have hws : ws.length < 1099511627776 := by omega
      have HN := hide hn
      clear hm4 hc4 C3 hok hpos hle hwf hP4 hmw hm' hmn
      go_wp2_with fail
      refine C4.out.mono ?_
      rintro e w5 ⟨a5, c5, rfl, i5, hc5, b5, o5⟩
      rw [hn] at i5 ⊢
      clear hn
      have BB5 := hide (bmore BB4.out b5)
      have M5 := hide (HM4.out.keep b5)
      have T5 := hide (T4.out.keep b5)
      have I5 := hide i5
      have hA5 := hide (show ∀ x, a5 = some x → w4.heap.size ≤ x.block from fun x hx => by
        obtain ⟨g5, cap5, e5, q1, _⟩ := own_form o5 HMW.out (by rw [HN.out]; exact hn0)
        have e6 : a5 = some ⟨g5, 0, none⟩ := by simpa using congrArg (fun v => match v with | Value.slice a _ _ => a | _ => none) e5
        rw [e6] at hx; cases hx; exact q1)
      have F5 := hide (show ∀ j, w5.frozen? ⟨g, j, none⟩ = false from fun j => (World.frozen?_of_block (a := ⟨g, j, none⟩) (b5.block g hg4.out)).trans (F4.out j))
      have hC := mand8 at_
      obtain ⟨C, eC⟩ : ∃ C : Nat, bits .and .i64 at_ 255 = C := ⟨(bits .and .i64 at_ 255).toNat, by omega⟩
      obtain ⟨q, hq⟩ : ∃ q : Nat, C % len = q := ⟨_, rfl⟩
      have hqn : q < len := by rw [← hq]; exact Nat.mod_lt _ hlp
      have eI : (C : Int) % (len : Int) = (q : Int) := by rw [← hq]; simp
      have hC255 : C ≤ 255 := by omega
      obtain ⟨x, hx⟩ : ∃ x, l[q]? = some x := ⟨_, List.getElem?_eq_getElem (by rw [hl.out]; exact hqn)⟩
      obtain ⟨S, K, T, V, X⟩ := x
      have hv := (by
        obtain ⟨b0, off0, e0, hc0⟩ := (I4.out.below b5 (Nat.le_refl _)).2.2.2 hlp
        cases e0
        exact hc0 q _ hx : Vt w5 g (0 + q * 5) ⟨S, K, T, V, X⟩)
      unfold Vt Vi at hv
      simp only [Nat.zero_add] at hv
      obtain ⟨v0, v1, v2, v3, v4⟩ := hv
      have f4 := F5.out (q * 5 + 4)
      have f0 := F5.out (q * 5)
      clear i5 hc5 b5 o5 hC hq hx C4 HM4
      go_wp2_with fail
      have hch6 : Ch (fun b => b = g) w5 ((w5.setCell ⟨g, q * 5 + 4, none⟩ (.int .i64 (wrap64 (X + 1)))).setCell ⟨g, q * 5, none⟩ (.int .i64 (bits BinOp.xor IntKind.i64 S 1))) :=
        Ch.trans (P := fun b => b = g) (Ch.set w5 ⟨g, q * 5 + 4, none⟩ (.int .i64 (wrap64 (X + 1))) rfl) (Ch.set _ ⟨g, q * 5, none⟩ _ rfl)
      generalize (w5.setCell ⟨g, q * 5 + 4, none⟩ (.int .i64 (wrap64 (X + 1)))).setCell ⟨g, q * 5, none⟩ (.int .i64 (bits BinOp.xor IntKind.i64 S 1)) = w6 at *
      have BB6 := hide (Below.ch BB5.out hch6 BB5.out.size (fun i hi => by rw [hi]; exact hgw.out))
      have M6 := hide (M5.out.ch hch6 (fun b hb e => by rw [e] at hb; exact HP4g.out hb))
      have T6 := hide (T5.out.ch hch6 (fun e => by have := hgw.out; have := h0w.out; omega))
      have I6 := hide (I5.out.ch hch6 (fun _ x hx e => by have := hA5.out x hx; have := hg4.out; omega))
      have C6 := hide (mitems_ho w6 M P4 false ws M6.out hws m HMM.out)
      have hA6 := hide (show ∀ x, a5 = some x → x.block < w6.heap.size from fun x hx => by
        obtain ⟨b9, off9, e9, hc9⟩ := I6.out.2.2.2 hn0
        rw [e9] at hx; cases hx
        obtain ⟨y9, hy9⟩ : ∃ y, m[0]? = some y := ⟨_, List.getElem?_eq_getElem (by rw [HN.out]; exact hn0)⟩
        exact (hc9 0 y9 hy9).lt)
      clear hch6 v0 v1 v2 v3 v4 f4 f0
      refine C6.out.mono ?_
      rintro e w7 ⟨a7, c7, rfl, i7, hc7, b7, o7⟩
      rw [HN.out] at i7 o7 ⊢
      have BB7 := hide (bmore BB6.out b7)
      have M7 := hide (M6.out.keep b7)
      have T7 := hide (T6.out.keep b7)
      have I7 := hide (I6.out.below b7 (Nat.le_refl _))
      obtain ⟨g7, cap7, e7, q1, q2, _, is7, fz7⟩ := own_form (by rw [← HN.out] at o7; exact o7) HMW.out (by rw [HN.out]; exact hn0)
      rw [HN.out] at e7
      cases e7
      obtain ⟨y, hy⟩ : ∃ y, m[0]? = some y := ⟨_, List.getElem?_eq_getElem (by rw [HN.out]; exact hn0)⟩
      obtain ⟨S7, K7, T7', V7, X7⟩ := y
      have hv := (by
        obtain ⟨b0, off0, e0, hc0⟩ := i7.2.2.2 hn0
        cases e0
        exact hc0 0 _ hy : Vt w7 g7 (0 + 0 * 5) ⟨S7, K7, T7', V7, X7⟩)
      unfold Vt Vi at hv
      simp only [Nat.zero_add, Nat.zero_mul] at hv
      obtain ⟨v0, v1, v2, v3, v4⟩ := hv
      have f3 := fz7 3
      have hg7 := hide q1
      have hg7l := hide q2
      have hMb := hide (fun b (hb : P4 b) => Nat.lt_of_lt_of_le (M6.out.lt b hb) q1)
      have hz1 : (((n : Nat) : Int) == 0) = false := by simp; omega
      have hz2 : (0 : Int) < (n : Int) := by omega
      clear i7 hc7 b7 o7 q1 q2 is7 fz7 hy C6
      go_wp2_with fail
      have hch8 : Ch (fun b => b = g7) w7 (w7.setCell ⟨g7, 3, none⟩ (.int .u64 (IntKind.u64.wrap (V7 + 1)))) := Ch.set w7 ⟨g7, 3, none⟩ _ rfl
      generalize w7.setCell ⟨g7, 3, none⟩ (.int .u64 (IntKind.u64.wrap (V7 + 1))) = w8 at *
      have BB8 := hide (Below.ch BB7.out hch8 BB7.out.size (fun i hi => by rw [hi]; have := hg7.out; have := BB6.out.size; omega))
      have M8 := hide (M7.out.ch hch8 (fun b hb e => by have := hMb.out b hb; omega))
      have T8 := hide (T7.out.ch hch8 (fun e => by have := hg7.out; have := BB6.out.size; have := h0w.out; omega))
      have I8 := hide (I7.out.ch hch8 (fun _ x hx e => by have := hA6.out x hx; have := hg7.out; omega))
      have C8 := hide (mitems_ho w8 M P4 false ws M8.out hws m HMM.out)
      clear hch8 v0 v1 v2 v3 v4 f3
      refine C8.out.mono ?_
      rintro e w9 ⟨a9, c9, rfl, i9, hc9, b9, o9⟩
      rw [HN.out] at i9 ⊢
      have BB9 := hide (bmore BB8.out b9)
      have T9 := hide (T8.out.keep b9)
      have CE := hide (refequal_any a9 a5 n c9 n c5 m m w9 i9 (I8.out.below b9 (Nat.le_refl _)) (by omega) (by omega))
      clear i9 hc9 b9 o9 C8
      go_wp2_with fail
      refine CE.out.mono ?_
      rintro e w10 ⟨o, rfl, ho, b10⟩
      obtain rfl : o = true := by simpa using ho
      have BB10 := hide (bmore BB9.out b10)
      have HA := hide (mawake_any w10 (T9.out.keep b10))
      clear ho b10 CE
      go_wp2_with fail
      refine HA.out.mono ?_
      rintro e w11 ⟨rfl, b11⟩
      have BB11 := hide (bmore BB10.out b11)
      clear b11
      go_wp2
      go_ret
      exact ⟨rfl, BB11.out⟩

end Go.Proofs.YtjpoahnecbefaaaDoor.Clep
