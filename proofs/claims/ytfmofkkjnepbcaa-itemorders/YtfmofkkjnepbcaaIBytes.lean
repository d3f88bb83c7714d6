/- What item.Bytes does when called: for any bytes and any items. Conditions: lengths of at most 2^40. -/
import Derived.Test.YtfmofkkjnepbcaaIRow
namespace Go.Proofs.Ytfmofkkjnepbcaa.Clep
open Go.RowKit
set_option linter.unusedVariables false

theorem bytes_long (a0 a1 : Option Addr) (len0 cap0 len1 cap1 : Nat) (w : World) (hl : 2000 < len1) (hm : len1 ≤ 9223372036854775807) :
    Calls Try.prog 22 #[.slice a0 len0 cap0, .slice a1 len1 cap1] w fun e w' => e = .returned (.tuple #[.slice none 0 0, .int .i64 2]) ∧ w' = w := by
  go_enter Try.func22, Try.ntmps22
  go_wp2
  go_ret2
  exact ⟨rfl, rfl⟩

/-- Behind the count: the tally holds how many there are, and how many may be. -/
def By (w w' : World) (R : Nat) (k : Nat) (l : List It) : Prop := Ta w' R k (okc l k) ∧ Below w.heap.size w w' ∧ w.heap.size < w'.heap.size

set_option maxHeartbeats 1000000 in
theorem bytes_core (a0 a1 : Option Addr) (len0 cap0 len1 cap1 : Nat) (zs : List Int) (l : List It) (w : World) (hl : len1 ≤ 2000) (hm : len0 ≤ 500000000000) (h0 : Bs w a0 len0 cap0 zs) (h1 : Is w a1 len1 cap1 l) (o : Bool) (ho : Hid (l.all It.ok = o)) :
    Calls Try.prog 22 #[.slice a0 len0 cap0, .slice a1 len1 cap1] w fun e w' => (∃ v, e = .returned (if o then .tuple #[v, .int .i64 0] else .tuple #[.slice none 0 0, .int .i64 1]) ∧ (o = true → Own w' w.heap.size v (zs ++ ibn l))) ∧ Below w.heap.size w w' := by
  have hl1 := h1.1
  have H0 := hide (fun W (hW : Below w.heap.size w W) => h0.below hW (Nat.le_refl _))
  have H1 := hide (fun W (hW : Below w.heap.size w W) => h1.below hW (Nat.le_refl _))
  have HL := hide hl1
  have hz0 := hide h0.1
  clear h0 h1
  have B0 := hide (show By w (w.alloc (Obj.cells #[Value.int IntKind.i64 0, Value.int IntKind.i64 0] 58)) w.heap.size 0 l from ⟨by rw [okc_zero]; exact ta_new w, (Below.refl _ w).alloc (Nat.le_refl _) _, by simp⟩)
  go_enter Try.func22, Try.ntmps22
  go_wp2_with fail
  go_loopw [17] (fun i wr => ∃ k : Nat, k ≤ len1 ∧ i = .int .i64 k ∧ Hid (By w wr w.heap.size k l)) (fun i _ => len1 - (intOf i).toNat)
  case atStart => exact ⟨0, by omega, rfl, B0⟩
  case round =>
    obtain ⟨k, hk, rfl, hby⟩ := hrel
    by_cases hlt : k < len1
    · have hI := H1.out _ hby.out.2.1
      obtain ⟨b, off, rfl, hc⟩ := hI.2.2.2 (by omega)
      obtain ⟨x, hx⟩ : ∃ x, l[k]? = some x := ⟨_, List.getElem?_eq_getElem (by rw [hl1]; exact hlt)⟩
      have hxw := hide (hI.2.2.1 x (List.mem_of_getElem? hx))
      have hv := hc k x hx
      have HS := hide (okc_succ l k x hx)
      have hkc := okc_le l k
      unfold It.ok at HS
      obtain ⟨S, K, T, V, X⟩ := x
      unfold Vt Vi at hv
      simp only at hv HS
      obtain ⟨v0, v1, v2, v3, v4⟩ := hv
      clear hI hc hx
      go_wp2_with fail
      refine (count_any w.heap.size k (okc l k) S K T V X _ (hby.out.1.keep ((Below.refl _ wr).alloc (Nat.le_refl _) _)) (by omega) (by omega)).mono ?_
      rw [← HS.out]
      rintro e w1 ⟨rfl, t1, g1⟩
      have B1 := hide (show By w w1 w.heap.size (k + 1) l from ⟨t1, (hby.out.2.1.alloc hby.out.2.1.size _).grown g1 (by have := hby.out.2.1.size; simp; omega) (fun j hj => by cases hj; exact Nat.le_refl _), Nat.lt_of_lt_of_le hby.out.2.2 (Nat.le_trans (by simp) g1.size)⟩)
      clear t1 g1 hby HS v0 v1 v2 v3 v4
      go_wp2
      go_roundw
      case rel => exact ⟨k + 1, by omega, by go_num, B1⟩
      case measure => simp [intOf]; omega
    · obtain rfl : k = len1 := by omega
      have HE := hide (show (okc l k == (k : Int)) = o by rw [← ho.out, ← okc_all, HL.out])
      clear ho
      go_wp2_with fail
      refine (allfine_any w.heap.size k (okc l k) wr hby.out.1).mono ?_
      rw [HE.out]
      rintro e w1 ⟨rfl, b1⟩
      have BW := hide (bmore hby.out.2.1 b1)
      clear hby b1 HE
      cases o with
      | false =>
        go_wp2
        go_ret2
        exact ⟨rfl, BW.out⟩
      | true =>
        go_wp2_with fail
        refine (put_any a0 len0 cap0 zs w1 k (by omega) (by omega) (by omega) (H0.out _ BW.out)).mono ?_
        rintro e w2 ⟨v2, rfl, o2, b2⟩
        have O2 := hide (show Own w2 w.heap.size v2 (zs ++ pu k) from own_base o2 BW.out.size)
        have BX := hide (bmore BW.out b2)
        have hsz := hide (show zs.length + (pu k).length ≤ 500000000010 by have := pu_len k; have := hz0.out; omega)
        clear o2 b2 BW
        go_wp2_with fail
        go_loopw [9, 33] (fun u i wr => ∃ j : Nat, j ≤ k ∧ i = .int .i64 j ∧ Hid (Own wr w.heap.size u (zs ++ pu k ++ ibs (l.take j))) ∧ Hid (Below w.heap.size w wr)) (fun _ i _ => k - (intOf i).toNat)
        case atStart => exact ⟨0, by omega, rfl, hide (by simpa [ibs] using O2.out), BX⟩
        case round =>
          obtain ⟨j, hj, rfl, hown, hbel⟩ := hrel
          by_cases hlt : j < k
          · have hI := H1.out _ hbel.out
            obtain ⟨b, off, rfl, hc⟩ := hI.2.2.2 (by omega)
            obtain ⟨x, hx⟩ : ∃ x, l[j]? = some x := ⟨_, List.getElem?_eq_getElem (by rw [hl1]; exact hlt)⟩
            have hxw := hI.2.2.1 x (List.mem_of_getElem? hx)
            have hv := hc j x hx
            have HS := hide (ibs_succ l j x hx)
            have hle := hide (ibs_len (l.take j))
            unfold It.b at HS
            unfold It.wf at hxw
            obtain ⟨S, K, T, V, X⟩ := x
            unfold Vt Vi at hv
            simp only at hv HS hxw
            obtain ⟨v0, v1, v2, v3, v4⟩ := hv
            obtain ⟨_, _, hT, hV, hX⟩ := hxw
            clear hI hc hx
            go_wp2_with fail
            refine (igrow_any _ _ w.heap.size S K T V X _ hT hV hX (own_keep hown.out ((Below.refl _ wr).alloc (Nat.le_refl _) _)) (by have := hbel.out.size; simp; omega) (by
              have h5 := hle.out; have := hsz.out; rw [List.length_take] at h5; simp only [List.length_append]; omega)).mono ?_
            rintro e w3 ⟨v3', rfl, o3, b3⟩
            have O3 := hide (show Own w3 w.heap.size v3' (zs ++ pu k ++ ibs (l.take (j + 1))) by rw [HS.out, ← List.append_assoc]; exact o3)
            have B3 := hide ((hbel.out.alloc hbel.out.size _).trans b3)
            clear o3 b3 hown hbel v0 v1 v2 v3 v4 HS
            go_wp2
            go_roundw
            case rel => exact ⟨j + 1, by omega, by go_num, O3, B3⟩
            case measure => simp [intOf]; omega
          · obtain rfl : j = k := by omega
            have O3 := hide (show Own wr w.heap.size _ (zs ++ ibn l) by
              have := hown.out
              rw [show l.take j = l from by rw [← HL.out]; exact List.take_length, List.append_assoc] at this
              unfold ibn; rw [HL.out]; exact this)
            clear hown
            go_wp2
            go_ret2
            exact ⟨⟨_, rfl, O3.out⟩, hbel.out⟩
  
theorem bytes_bad (a0 a1 : Option Addr) (len0 cap0 len1 cap1 : Nat) (zs : List Int) (l : List It) (w : World) (hl : len1 ≤ 2000) (hm : len0 ≤ 500000000000) (h0 : Bs w a0 len0 cap0 zs) (h1 : Is w a1 len1 cap1 l) (ho : l.all It.ok = false) :
    Calls Try.prog 22 #[.slice a0 len0 cap0, .slice a1 len1 cap1] w fun e w' => e = .returned (.tuple #[.slice none 0 0, .int .i64 1]) ∧ Below w.heap.size w w' :=
  (bytes_core a0 a1 len0 cap0 len1 cap1 zs l w hl hm h0 h1 false ho).mono fun _ _ ⟨⟨_, h, _⟩, hb⟩ => ⟨h, hb⟩
theorem bytes_any (a0 a1 : Option Addr) (len0 cap0 len1 cap1 : Nat) (zs : List Int) (l : List It) (w : World) (hl : len1 ≤ 2000) (hm : len0 ≤ 500000000000) (h0 : Bs w a0 len0 cap0 zs) (h1 : Is w a1 len1 cap1 l) (ho : l.all It.ok = true) :
    Calls Try.prog 22 #[.slice a0 len0 cap0, .slice a1 len1 cap1] w fun e w' => ∃ v, e = .returned (.tuple #[v, .int .i64 0]) ∧ Own w' w.heap.size v (zs ++ ibn l) ∧ Below w.heap.size w w' :=
  (bytes_core a0 a1 len0 cap0 len1 cap1 zs l w hl hm h0 h1 true ho).mono fun _ _ ⟨⟨v, h, ho⟩, hb⟩ => ⟨v, h, ho rfl, hb⟩

end Go.Proofs.Ytfmofkkjnepbcaa.Clep
