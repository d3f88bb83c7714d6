/- What frame.Put does when called (a walk over the translated program): for any bytes of at most 2^45, any kind, any body. -/
import Derived.Test.YtgopcaemgcnapaaFrame
namespace Go.Proofs.Ytgopcaemgcnapaa.Clep
open Go.RowKit
set_option linter.unusedVariables false
set_option maxRecDepth 10000

/-- A head. -/
def hd (k : Int) (n : Nat) : List Int := [k, ((n / 65536 : Nat) : Int), ((n / 256 : Nat) : Int), ((n % 256 : Nat) : Int)]
/-- A frame. -/
def fr (k : Int) (ys : List Int) : List Int := sl (hd k ys.length) ++ sl ys
theorem hd_len (k : Int) (n : Nat) : (hd k n).length = 4 := rfl
theorem hd_range (k : Int) (n : Nat) (h0 : 1 ≤ k) (h1 : k ≤ 100) (hn : n ≤ 60000) : ByteL (hd k n) := by
  intro z hz
  simp only [hd, List.mem_cons, List.not_mem_nil, or_false] at hz
  omega
theorem fr_len (k : Int) (ys : List Int) : (fr k ys).length = ys.length + 12 := by
  unfold fr; rw [List.length_append, sl_len, sl_len, hd_len]; omega
theorem fr_range (k : Int) (ys : List Int) (h0 : 1 ≤ k) (h1 : k ≤ 100) (hn : ys.length ≤ 60000) (h : ByteL ys) : ByteL (fr k ys) :=
  ByteL.append (sl_range _ (hd_range k _ h0 h1 hn)) (sl_range _ h)

theorem fput_arg (a0 a2 : Option Addr) (len0 cap0 len2 cap2 : Nat) (k : Int) (w : World) (hk : k < 1 ∨ 100 < k) :
    Calls Try.prog 30 #[.slice a0 len0 cap0, .int .i64 k, .slice a2 len2 cap2] w fun e w' => e = .returned (.tuple #[.slice none 0 0, .int .i64 1]) ∧ w' = w := by
  go_enter Try.func30, Try.ntmps30
  rcases hk with hk | hk
  · go_wp2
    go_ret2
    exact ⟨rfl, rfl⟩
  · have hk2 : ¬ k < 1 := by omega
    go_wp2
    go_ret2
    exact ⟨rfl, rfl⟩
theorem fput_long (a0 a2 : Option Addr) (len0 cap0 len2 cap2 : Nat) (k : Int) (w : World) (hk : 1 ≤ k) (hk2 : k ≤ 100) (hl : 60000 < len2) (hm : len2 ≤ 70368744177664) :
    Calls Try.prog 30 #[.slice a0 len0 cap0, .int .i64 k, .slice a2 len2 cap2] w fun e w' => e = .returned (.tuple #[.slice none 0 0, .int .i64 2]) ∧ w' = w := by
  have hn1 : ¬ k < 1 := by omega
  have hn2 : ¬ 100 < k := by omega
  go_enter Try.func30, Try.ntmps30
  go_wp2
  go_ret2
  exact ⟨rfl, rfl⟩

set_option maxHeartbeats 400000 in
theorem fput_any (a0 a2 : Option Addr) (len0 cap0 len2 cap2 : Nat) (zs ys : List Int) (k : Int) (w : World) (hk : 1 ≤ k) (hk2 : k ≤ 100) (hl : len2 ≤ 60000) (hm : len0 ≤ 35184372088832) (h0 : Bs w a0 len0 cap0 zs) (h2 : Bs w a2 len2 cap2 ys) :
    Calls Try.prog 30 #[.slice a0 len0 cap0, .int .i64 k, .slice a2 len2 cap2] w fun e w' => ∃ v, e = .returned (.tuple #[v, .int .i64 0]) ∧ Own w' w.heap.size v (zs ++ fr k ys) ∧ Below w.heap.size w w' := by
  obtain ⟨i0, hi, hz0, hz1, hz2⟩ := info_parts info5
  have hn1 : ¬ k < 1 := by omega
  have hn2 : ¬ 100 < k := by omega
  have l0 := h0.1
  have l2 := h2.1
  have H0 := hide (fun W (hW : Below w.heap.size w W) => h0.below hW (Nat.le_refl _))
  have H2 := hide (fun W (hW : Below w.heap.size w W) => h2.below hW (Nat.le_refl _))
  have HH := hide (hd_range k len2 hk hk2 hl)
  have HA := hide (show #[Value.int IntKind.u8 k, Value.int IntKind.u8 ((len2 : Int) / 65536), Value.int IntKind.u8 ((len2 : Int) / 256), Value.int IntKind.u8 ((len2 : Int) % 256)] = (bv (hd k len2)).toArray by
    simp [bv, hd])
  clear h0 h2
  go_enter Try.func30, Try.ntmps30
  go_wp2_with (first
    | (at_make; refine wpList_make_own _ rfl _ _ 35 rfl (w.heap.size + 1) 5 i0 (.int .u8 0) 1 Try.underlying35 hi hz0 hz1 .i64 .i64 _ (len0 + 8 + len2 + 4) rfl rfl ?c1 ?c2 ?c3 ?c4 ?_)
    | fail)
  case c2 => omega
  case c3 => unfold maxLen; omega
  intro w1 hown hg
  have hs1 : (w.alloc (Obj.cells #[Value.int IntKind.u8 k, Value.int IntKind.u8 ((len2 : Int) / 65536), Value.int IntKind.u8 ((len2 : Int) / 256), Value.int IntKind.u8 ((len2 : Int) % 256)] 5)).heap.size = w.heap.size + 1 := by simp
  have hA : Below w.heap.size w (w.alloc (Obj.cells #[Value.int IntKind.u8 k, Value.int IntKind.u8 ((len2 : Int) / 65536), Value.int IntKind.u8 ((len2 : Int) / 256), Value.int IntKind.u8 ((len2 : Int) % 256)] 5)) := (Below.refl _ w).alloc (Nat.le_refl _) _
  have hD := bs_newL w (hd k len2) HH.out _ HA.out 4 rfl (0, 0)
  have HO1 := hide (show Own w1 (w.heap.size + 1) _ [] from hown)
  generalize w.alloc (Obj.cells #[Value.int IntKind.u8 k, Value.int IntKind.u8 ((len2 : Int) / 65536), Value.int IntKind.u8 ((len2 : Int) / 256), Value.int IntKind.u8 ((len2 : Int) % 256)] 5) = W0 at *
  have HS0 := hide hs1
  have HDK := hide (fun W (hW : Below (w.heap.size + 1) W0 W) => hD.below hW (by rw [hs1]; exact Nat.le_refl _))
  have HBK := hide (fun W (hW : Below (w.heap.size + 1) W0 W) => hA.trans (hW.mono (Nat.le_succ _)))
  have hb1 := (Below.refl (w.heap.size + 1) W0).grown hg (by rw [hs1]; exact Nat.le_refl _) (fun k hk => by cases hk)
  have HSK := hide (fun W (hW : Below (w.heap.size + 1) W0 W) => show w.heap.size + 1 ≤ W.heap.size by have := hW.size; rwa [hs1] at this)
  have HB1 := hide hb1
  clear hown hg hb1 hD HA hA hs1
  go_wp2_with (first
    | (at_builtin; refine wpList_append_bytes rfl _ _ rfl (w.heap.size + 1) _ [] rfl HO1.out a0 len0 cap0 zs rfl (H0.out _ (HBK.out _ HB1.out)) ?d1 ?d2 ?_)
    | fail)
  case d1 => simp; omega
  case d2 => exact HSK.out _ HB1.out
  intro v2 w2 ho2 hb2
  have HB2 := hide (HB1.out.trans hb2)
  have HO2 := hide (show Own w2 (w.heap.size + 1) v2 zs from ho2)
  clear ho2 hb2 HO1 HB1
  go_wp2_with fail
  refine (seal_any _ 4 4 (hd k len2) w2 (by omega) (HDK.out _ HB2.out)).mono ?_
  rintro e w3 ⟨v3, rfl, ho3, hb3⟩
  obtain ⟨g3, c3, rfl, -, -, hbs3⟩ := own_at ho3 (sl_range _ HH.out) 8 (by rw [sl_len, hd_len]) (by omega)
  have HO3 := hide (own_keep HO2.out hb3)
  have HB3 := hide (HB2.out.trans (hb3.mono (HSK.out _ HB2.out)))
  have HS3 := hide hbs3
  clear ho3 hb3 hbs3 HO2
  go_wp2_with (first
    | (at_builtin; refine wpList_append_bytes rfl _ _ rfl (w.heap.size + 1) _ zs rfl HO3.out _ 8 c3 _ rfl HS3.out ?e1 ?e2 ?_)
    | fail)
  case e1 => omega
  case e2 => exact HSK.out _ HB3.out
  intro v4 w4 ho4 hb4
  have HB4 := hide (HB3.out.trans hb4)
  have HO4 := hide ho4
  clear ho4 hb4 HO3 HB3 HS3
  go_wp2_with fail
  refine (seal_any a2 len2 cap2 ys w4 (by omega) (H2.out _ (HBK.out _ HB4.out))).mono ?_
  rintro e w5 ⟨v5, rfl, ho5, hb5⟩
  obtain ⟨g5, c5, rfl, -, -, hbs5⟩ := own_at ho5 (sl_range _ (bs_range (H2.out _ (Below.refl _ w)))) (len2 + 4) (by rw [sl_len, l2]) (by omega)
  have HO5 := hide (own_keep HO4.out hb5)
  have HB5 := hide (HB4.out.trans (hb5.mono (HSK.out _ HB4.out)))
  have HS5 := hide hbs5
  clear ho5 hb5 hbs5 HO4
  go_wp2_with (first
    | (at_builtin; refine wpList_append_bytes rfl _ _ rfl (w.heap.size + 1) _ (zs ++ sl (hd k len2)) rfl HO5.out _ (len2 + 4) c5 _ rfl HS5.out ?f1 ?f2 ?_)
    | fail)
  case f1 => rw [List.length_append, sl_len, hd_len]; omega
  case f2 => exact HSK.out _ HB5.out
  intro v6 w6 ho6 hb6
  have HB6 := hide (HBK.out _ (HB5.out.trans hb6))
  have HO6 := hide ho6
  clear ho6 hb6 HO5 HB5 HS5
  go_wp2
  go_ret2
  exact ⟨_, rfl, by unfold fr; rw [l2]; exact own_base HO6.out (Nat.le_succ _), HB6.out⟩

end Go.Proofs.Ytgopcaemgcnapaa.Clep
