/- SumHashes, walked: it answers true. For any bytes, any two bytes. -/
import Derived.Test.YtfcakghegdaeoabAwakeB
import Derived.Test.YtfcakghegdaeoabAppend
namespace Go.Proofs.Ytfcakghegdaeoab.Clep
open Go.RowKit
set_option linter.unusedVariables false

theorem byteL_one {x : Int} (h : 0 ≤ x ∧ x < 256) : ByteL [x] := by intro z hz; simp at hz; omega
theorem hashes_long (a0 : Option Addr) (len cap : Nat) (x y : Int) (w : World) (hl : 3000 < len) (hm : len ≤ 9223372036854775807) :
    Calls Try.prog 3 #[.slice a0 len cap, .int .u8 x, .int .u8 y] w fun e w' => e = .returned (.bool true) ∧ Below w.heap.size w w' := by
  go_enter Try.func3, Try.ntmps3
  go_wp2_with fail
  refine (awake_any _).mono ?_
  rintro e w1 ⟨rfl, hb⟩
  have HB := hide hb
  clear hb
  go_wp2
  go_ret
  exact ⟨rfl, HB.out⟩

set_option maxHeartbeats 800000 in
theorem hashes_core (a0 : Option Addr) (len cap : Nat) (zs : List Int) (x y : Int) (w : World) (hx : 0 ≤ x ∧ x < 256) (hy : 0 ≤ y ∧ y < 256) (hl : len ≤ 3000) (h : Bs w a0 len cap zs) (b : Bool)
    (hxy : (x == y) = b) (heq : ((fnv (zs ++ [x]) : Int) == (fnv (zs ++ [y]) : Int)) = b) :
    Calls Try.prog 3 #[.slice a0 len cap, .int .u8 x, .int .u8 y] w fun e w' => e = .returned (.bool true) ∧ Below w.heap.size w w' := by
  have H := hide h
  have hzl := hide h.1
  have hzr : Hid (ByteL zs) := hide (bs_range h)
  have hbb : (b == b) = true := by cases b <;> rfl
  have hmul : ((fnv (zs ++ [x]) : Int) == IntKind.u64.wrap (bits BinOp.xor IntKind.u64 (fnv zs : Int) x * 1099511628211)) = true := by
    rw [IntKind.wrap_u64, lay_bits _ x (fnv_lt zs) hx, fnv_last]; simp
  clear h
  go_enter Try.func3, Try.ntmps3
  go_wp2_with (first
    | (at_builtin; refine wpList_append_bytes rfl _ _ rfl w.heap.size _ [] rfl (own_lit w [] w.heap.size (Nat.le_refl _) _ rfl 0 rfl (by omega)) a0 len cap zs rfl ?b1 ?b2 ?b3 ?_)
    | fail)
  case b1 => exact H.out.below ((Below.refl _ w).alloc (Nat.le_refl _) _) (Nat.le_refl _)
  case b2 => simp; omega
  case b3 => simp
  intro v1 w1 ho1 hb1
  have HB1 := hide (((Below.refl w.heap.size w).alloc (Nat.le_refl _) _).trans hb1)
  have hs1 := hide HB1.out.size
  clear hb1
  go_wp2_with (first
    | (at_builtin; refine wpList_append_bytes rfl _ _ rfl w.heap.size v1 zs rfl (ho1.alloc _) _ 1 1 [x] rfl (bs_newL w1 [x] (byteL_one hx) _ rfl 1 rfl _) ?c2 ?c3 ?_)
    | fail)
  case c2 => rw [hzl.out]; omega
  case c3 => have := hs1.out; simp; omega
  intro v2 w2 ho2 hb2
  have HB2 := hide ((HB1.out.alloc hs1.out _).trans hb2)
  have hs2 := hide HB2.out.size
  clear hb2 ho1 hs1
  go_wp2_with (first
    | (at_builtin; refine wpList_append_bytes rfl _ _ rfl w2.heap.size _ [] rfl (own_lit w2 [] w2.heap.size (Nat.le_refl _) _ rfl 0 rfl (by omega)) a0 len cap zs rfl ?d1 ?d2 ?d3 ?_)
    | fail)
  case d1 => exact H.out.below (HB2.out.alloc hs2.out _) (Nat.le_refl _)
  case d2 => simp; omega
  case d3 => simp
  intro v3 w3 ho3 hb3
  have HB3 := hide (((Below.refl w2.heap.size w2).alloc (Nat.le_refl _) _).trans hb3)
  have hs3 := hide HB3.out.size
  clear hb3
  go_wp2_with (first
    | (at_builtin; refine wpList_append_bytes rfl _ _ rfl w2.heap.size v3 zs rfl (ho3.alloc _) _ 1 1 [y] rfl (bs_newL w3 [y] (byteL_one hy) _ rfl 1 rfl _) ?e2 ?e3 ?_)
    | fail)
  case e2 => rw [hzl.out]; omega
  case e3 => have := hs3.out; simp; omega
  intro v4 w4 ho4 hb4
  have HB4 := hide ((HB3.out.alloc hs3.out _).trans hb4)
  clear hb4 ho3 hs3
  obtain ⟨g2, cap2, rfl, _, _, hbs2⟩ := own_at ho2 (ByteL.append hzr.out (byteL_one hx)) (len + 1) (by rw [List.length_append, hzl.out]; rfl) (by omega)
  obtain ⟨g4, cap4, rfl, _, _, hbs4⟩ := own_at ho4 (ByteL.append hzr.out (byteL_one hy)) (len + 1) (by rw [List.length_append, hzl.out]; rfl) (by omega)
  have K2 := hide (hbs2.below HB4.out (Nat.le_refl _))
  have K4 := hide hbs4
  have HB5 := hide (HB2.out.trans (HB4.out.mono hs2.out))
  clear ho2 ho4 hbs2 hbs4
  have hA := fnv_lt (zs ++ [x])
  have hB := fnv_lt (zs ++ [y])
  have hD := fnv_lt zs
  go_wp2_with fail
  refine (hash_any _ (len + 1) cap2 (zs ++ [x]) _ (by omega) K2.out).mono ?_
  rintro e w5 ⟨rfl, rfl⟩
  go_wp2_with fail
  refine (hash_any _ (len + 1) cap4 (zs ++ [y]) _ (by omega) K4.out).mono ?_
  rintro e w5 ⟨rfl, rfl⟩
  go_wp2_with fail
  refine (hash_any _ (len + 1) cap2 (zs ++ [x]) _ (by omega) K2.out).mono ?_
  rintro e w5 ⟨rfl, rfl⟩
  go_wp2_with fail
  refine (hash_any a0 len cap zs _ (by omega) (H.out.below HB5.out (Nat.le_refl _))).mono ?_
  rintro e w5 ⟨rfl, rfl⟩
  generalize fnv (zs ++ [x]) = A at *
  generalize fnv (zs ++ [y]) = B at *
  generalize fnv zs = D at *
  go_wp2_with fail
  refine (awake_any _).mono ?_
  rintro e w6 ⟨rfl, hb⟩
  have HB6 := hide (HB5.out.trans (hb.mono HB5.out.size))
  clear hb
  go_wp2
  go_ret
  exact ⟨rfl, HB6.out⟩

theorem hashes_walk (a0 : Option Addr) (len cap : Nat) (zs : List Int) (x y : Int) (w : World) (h : Bs w a0 len cap zs) (hm : len ≤ 9223372036854775807) (w1 : (Lit.int .u8 x).wf = true) (w2 : (Lit.int .u8 y).wf = true) :
    Calls Try.prog 3 #[.slice a0 len cap, .int .u8 x, .int .u8 y] w fun e w' => e = .returned (.bool true) ∧ Below w.heap.size w w' := by
  have hx := u8_bounds w1
  have hy := u8_bounds w2
  rcases Nat.lt_or_ge 3000 len with hl | hl
  · exact hashes_long a0 len cap x y w hl hm
  · by_cases hxy : x = y
    · exact hashes_core a0 len cap zs x y w hx hy hl h true (by simp [hxy]) (by simp [hxy])
    · refine hashes_core a0 len cap zs x y w hx hy hl h false (by simp [hxy]) ?_
      rw [beq_eq_false_iff_ne]
      intro e
      have e : fnv (zs ++ [x]) = fnv (zs ++ [y]) := by omega
      rw [fnv_last, fnv_last] at e
      have := lay_inj _ _ _ (fnv_lt zs) (by omega) (by omega) e
      omega

end Go.Proofs.Ytfcakghegdaeoab.Clep
