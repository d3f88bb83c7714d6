/- What the document's own Clean does when called: for any items. Conditions: at most a million items. -/
import Derived.Test.YtkkcchklefcljaaVCleanW
namespace Go.Proofs.Ytkkcchklefcljaa.Clep
open Go.RowKit
set_option linter.unusedVariables false

theorem any_take (q : It → Bool) (l : List It) (k : Nat) (x : It) (h : l[k]? = some x) : (l.take (k + 1)).any q = ((l.take k).any q || q x) := by
  rw [List.take_add_one, h, List.any_append]
  simp
theorem clean_take (q : It → Bool) (l : List It) (k : Nat) (x : It) (h : l[k]? = some x) : (l.take (k + 1)).filter q = (l.take k).filter q ++ (if q x then [x] else []) := by
  rw [List.take_add_one, h, List.filter_append]
  cases hq : q x <;> simp [hq]
theorem hidB_not {l : List It} {x : It} (h : x.K ≠ 2) : hidB l x = false := by
  unfold hidB
  rw [List.any_eq_false]
  intro t _
  have : t.hides x = false := by rw [nhides_iff]; omega
  simp [this]
set_option maxRecDepth 100000 in
set_option maxHeartbeats 4000000 in
theorem refclean_any (a : Option Addr) (n c : Nat) (l : List It) (w : World) (h : Is w a n c l) (hn : n ≤ 1000000) :
    Calls Try.prog 13 #[.slice a n c] w (AnsL (clL l) w) := by
  have hl := h.1
  have H0 := hide (fun W (hW : Below w.heap.size w W) => h.below hW (Nat.le_refl _))
  have HW := hide h.2.2.1
  clear h
  go_enter Try.func13, Try.ntmps13
  go_wp2_with fail
  go_loopw [3, 4] (fun s3 s4 wr => ∃ i : Nat, i ≤ n ∧ s4 = .int .i64 i ∧ Hid (OwnI wr w.heap.size s3 ((l.take i).filter fun x => !hidB l x)) ∧ Hid (Below w.heap.size w wr)) (fun _ s4 _ => n - (intOf s4).toNat)
  case atStart => exact ⟨0, by omega, rfl, hide (by simpa using ownI_nil _ _), hide (Below.refl _ _)⟩
  case round =>
    obtain ⟨i, hi, rfl, hO, hB⟩ := hrel
    by_cases hlt : i < n
    · obtain ⟨w0, rfl⟩ : ∃ w0, w0 = wr := ⟨_, rfl⟩
      obtain ⟨x, hx⟩ : ∃ x, l[i]? = some x := ⟨_, List.getElem?_eq_getElem (by rw [hl]; exact hlt)⟩
      have hIw := H0.out _ hB.out
      obtain ⟨b0, off, ea, hc⟩ := hIw.2.2.2 (by omega)
      subst ea
      have hv := hide (hc i x hx)
      have HC := hide hc
      have HT := hide (clean_take (fun x => !hidB l x) l i x hx)
      have hxw := hide (HW.out x (List.mem_of_getElem? hx))
      have hln : Hid (((l.take i).filter fun x => !hidB l x).length + 1 ≤ 3518437208883) := hide (by have h1 := List.length_filter_le (fun x => !hidB l x) (l.take i); rw [List.length_take] at h1; omega)
      obtain ⟨o, ho⟩ : ∃ o, hidB l x = o := ⟨_, rfl⟩
      have HO := hide ho
      have hin : (i : Int) < (n : Int) := by omega
      clear hIw hc hx ho
      go_upto_block 2 with fail
      go_cut [5, 6] from 7 to 47 (fun s5 s6 wx => s5 = .bool o ∧ Hid (Below w0.heap.size w0 wx))
      case first =>
        have hxK := hide (show hidB l x = o from HO.out)
        obtain ⟨S, K, T, V, X⟩ := x
        unfold Vt at hv
        simp only at hv
        clear HT hxw hln HO
        go_wp2_with fail
        by_cases hK : K = 2
        · subst hK
          go_loopw [5, 6] (fun s5 s6 wq => ∃ (k : Nat) (b : Bool), k ≤ n ∧ s6 = .int .i64 k ∧ s5 = .bool b ∧ Hid (b = (l.take k).any fun t => t.hides ⟨S, 2, T, V, X⟩) ∧ Hid (Below w0.heap.size w0 wq)) (fun _ s6 _ => n - (intOf s6).toNat)
          case atStart => exact ⟨0, false, by omega, rfl, rfl, hide (by simp), hide (Below.refl _ _)⟩
          case round =>
            obtain ⟨k, b, hk, rfl, rfl, hb, hBq⟩ := hrel
            obtain ⟨d0, d1, d2, d3, d4⟩ := hv.out.keep hBq.out
            by_cases hkn : k < n
            · obtain ⟨y, hy⟩ : ∃ y, l[k]? = some y := ⟨_, List.getElem?_eq_getElem (by rw [hl]; exact hkn)⟩
              have hvy := hide ((show Vi w0 b0 (off + k * 5) y.S y.K y.T y.V y.X from HC.out k y hy).keep hBq.out)
              have hvx := hide (hv.out.keep hBq.out)
              have HT2 := hide (any_take (fun t => t.hides ⟨S, 2, T, V, X⟩) l k y hy)
              obtain ⟨S1, K1, T1, V1, X1⟩ := y
              simp only at hvy
              have hki : (k : Int) < (n : Int) := by omega
              have hne : Nonempty (Kp wr) := ⟨⟨_, Below.refl _ _⟩⟩
              have e0 : decide ((k : Int) < (n : Int)) = true := by simp; omega
              clear hy
              cases b with
              | true =>
                go_wp2_with fail
                refine wp_region_kept (by kernel_rfl) (by kernel_rfl) ?_
                repeat (first
                  | go_big_quiet_step (fail)
                  | fail)
                refine wpQuiet_nil ?_
                intro w5 hw'
                have hb5 : Hid (Below wr.heap.size wr w5) := by
                  obtain ⟨⟨w3', hb3⟩, hw''⟩ := hw'
                  rw [hw'']; exact hide hb3
                have B5 := hide (bmore hBq.out hb5.out)
                clear hw' hne
                go_wp2_with fail
                go_roundw
                case rel => exact ⟨k + 1, true, by omega, by go_num, rfl, hide (by rw [HT2.out, ← hb.out]; rfl), B5⟩
                case measure => simp [intOf]; omega
              | false =>
                have x0 : ∀ p : Kp wr, p.W.cell? ⟨b0, off + i * 5, none⟩ = some (.int .i64 S) := fun p => (hvx.out.keep p.h).1
                have x1 : ∀ p : Kp wr, p.W.cell? ⟨b0, off + i * 5 + 1, none⟩ = some (.int .i64 2) := fun p => (hvx.out.keep p.h).2.1
                have x2 : ∀ p : Kp wr, p.W.cell? ⟨b0, off + i * 5 + 2, none⟩ = some (.int .u64 T) := fun p => (hvx.out.keep p.h).2.2.1
                have x3 : ∀ p : Kp wr, p.W.cell? ⟨b0, off + i * 5 + 3, none⟩ = some (.int .u64 V) := fun p => (hvx.out.keep p.h).2.2.2.1
                have x4 : ∀ p : Kp wr, p.W.cell? ⟨b0, off + i * 5 + 4, none⟩ = some (.int .i64 X) := fun p => (hvx.out.keep p.h).2.2.2.2
                have y0 : ∀ p : Kp wr, p.W.cell? ⟨b0, off + k * 5, none⟩ = some (.int .i64 S1) := fun p => (hvy.out.keep p.h).1
                have y1 : ∀ p : Kp wr, p.W.cell? ⟨b0, off + k * 5 + 1, none⟩ = some (.int .i64 K1) := fun p => (hvy.out.keep p.h).2.1
                have y2 : ∀ p : Kp wr, p.W.cell? ⟨b0, off + k * 5 + 2, none⟩ = some (.int .u64 T1) := fun p => (hvy.out.keep p.h).2.2.1
                have y3 : ∀ p : Kp wr, p.W.cell? ⟨b0, off + k * 5 + 3, none⟩ = some (.int .u64 V1) := fun p => (hvy.out.keep p.h).2.2.2.1
                have y4 : ∀ p : Kp wr, p.W.cell? ⟨b0, off + k * 5 + 4, none⟩ = some (.int .i64 X1) := fun p => (hvy.out.keep p.h).2.2.2.2
                obtain ⟨r, hr⟩ : ∃ r, hidesI S1 K1 V1 S 2 V = r := ⟨_, rfl⟩
                have c1 : Hid (∀ p : Kp wr, Calls Try.prog 33 #[.agg #[.int .i64 S1, .int .i64 K1, .int .u64 T1, .int .u64 V1, .int .i64 X1], .agg #[.int .i64 S, .int .i64 2, .int .u64 T, .int .u64 V, .int .i64 X]] p.W fun e w'' => e = .returned (.bool r) ∧ ∃ q : Kp wr, w'' = q.W) := hide fun p => kp_call (by rw [← hr]; exact refhides_any S1 K1 T1 V1 X1 S 2 T V X _)
                have HR := hide (show It.hides ⟨S1, K1, T1, V1, X1⟩ ⟨S, 2, T, V, X⟩ = r from hr)
                clear hr hvx hvy
                go_wp2_with fail
                refine wp_region_kept (by kernel_rfl) (by kernel_rfl) ?_
                repeat (first
                  | go_big_quiet_step (first | (go_at_call 33; exact c1.out _))
                  | fail)
                refine wpQuiet_nil ?_
                intro w5 hw'
                have hb5 : Hid (Below wr.heap.size wr w5) := by
                  obtain ⟨⟨w3', hb3⟩, hw''⟩ := hw'
                  rw [hw'']; exact hide hb3
                have B5 := hide (bmore hBq.out hb5.out)
                clear hw' hne x0 x1 x2 x3 x4 y0 y1 y2 y3 y4 c1
                go_wp2_with fail
                go_roundw
                case rel => exact ⟨k + 1, r, by omega, by go_num, rfl, hide (by rw [HT2.out, ← hb.out, HR.out]; rfl), B5⟩
                case measure => simp [intOf]; omega
            · obtain rfl : k = n := by omega
              have HE : Hid (b = o) := hide (by rw [hb.out, show l.take k = l by rw [← hl]; exact List.take_length, ← hxK.out]; rfl)
              rw [HE.out]
              go_wp2_with fail
              go_meet
              exact ⟨rfl, hBq⟩
        · have HE : Hid (false = o) := hide (by rw [← hxK.out]; exact (hidB_not hK).symm)
          have hKb : (K == 2) = false := by simp [hK]
          go_loopw [5, 6] (fun s5 s6 wq => s5 = .bool false ∧ s6 = .int .i64 0 ∧ wq = w0) (fun _ _ _ => 0)
          case atStart => exact ⟨rfl, rfl, rfl⟩
          case round =>
            obtain ⟨rfl, rfl, rfl⟩ := hrel
            obtain ⟨d0, d1, d2, d3, d4⟩ := hv.out
            have hn0 : (0 : Int) < (n : Int) := by omega
            have hz : ((0 : Nat) : Int) < (n : Int) := by omega
            go_wp2_with fail
            go_meet
            exact ⟨by rw [← HE.out], hide (Below.refl _ _)⟩
      case rest =>
        obtain ⟨rfl, hb1⟩ := hcut
        obtain ⟨w1, rfl⟩ : ∃ w1, w1 = wc := ⟨_, rfl⟩
        have hv1 := hide (hv.out.keep hb1.out)
        have O1 := hide (ownI_keep hO.out hb1.out)
        have B1 := hide (bmore hB.out hb1.out)
        clear HC hv hO hB hb1
        cases o with
        | true =>
          go_wp2_with fail
          go_roundw
          case rel => exact ⟨i + 1, by omega, by go_num, hide (by rw [HT.out, HO.out]; simpa using O1.out), B1⟩
          case measure => simp [intOf]; omega
        | false =>
          have A1 := (Below.refl _ w1).alloc (Nat.le_refl _) (Obj.cells #[.int .i64 x.S, .int .i64 x.K, .int .u64 x.T, .int .u64 x.V, .int .i64 x.X] 36)
          have O2 := hide (ownI_keep O1.out A1)
          have B2 := hide (bmore B1.out A1)
          have IA := hide (is_one w1 x.S x.K x.T x.V x.X hxw.out)
          have HO2 := hide (show ((l.take (i + 1)).filter fun x => !hidB l x) = ((l.take i).filter fun x => !hidB l x) ++ [⟨x.S, x.K, x.T, x.V, x.X⟩] by rw [HT.out, HO.out]; rfl)
          unfold Vt at hv1
          obtain ⟨S, K, T, V, X⟩ := x
          simp only at hv1 O2 B2 IA HO2
          obtain ⟨d0, d1, d2, d3, d4⟩ := hv1.out
          clear A1 HT HO O1 hxw
          go_wp2_with (first
            | (at_builtin; refine wpList_append_items rfl _ _ rfl w.heap.size _ _ rfl O2.out _ 1 1 [⟨S, K, T, V, X⟩] rfl IA.out hln.out B2.out.size ?_; intro v2 w2 o2 g2 k2))
          have O3 := hide o2
          have B3 := hide (B2.out.grown g2 B2.out.size k2)
          go_roundw
          case rel => exact ⟨i + 1, by omega, by go_num, hide (by rw [HO2.out]; exact O3.out), B3⟩
          case measure => simp [intOf]; omega
    · obtain rfl : i = n := by omega
      have HE := hide (show l.take i = l by rw [← hl]; exact List.take_length)
      rw [HE.out] at hO
      have HA : Hid (AnsL (clL l) w (.returned u3) wr) := hide (by
        obtain ⟨a9, c9, rfl, hc9, hI9, _⟩ := ownI_is hO.out (fun x hx => HW.out x (List.mem_filter.1 hx).1)
        exact ⟨a9, _, c9, rfl, hI9, hc9, hB.out⟩)
      clear hO HE
      go_wp2
      go_ret
      exact HA.out

end Go.Proofs.Ytkkcchklefcljaa.Clep
