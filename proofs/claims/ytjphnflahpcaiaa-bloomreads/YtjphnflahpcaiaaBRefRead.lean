/- What the document's own ReadFilter does when called: for any text. No conditions but the kinds' bounds. -/
import Derived.Test.YtjphnflahpcaiaaBReadW
import Derived.Test.YtjphnflahpcaiaaBRef
import Derived.Test.YtjphnflahpcaiaaNRefTake
import Derived.Test.YtjphnflahpcaiaaBStrBytes
namespace Go.Proofs.Ytjphnflahpcaiaa.Clep
open Go.RowKit
set_option linter.unusedVariables false

theorem sz_drop {s : ByteArray} {zs : List Int} (h : Sz s zs) (P : Nat) (hP : P ≤ s.size) : Sz (s.extract P s.size) (zs.drop P) := by
  refine ⟨by rw [ByteArray.size_extract, List.length_drop, h.1]; omega, fun k hk => ?_⟩
  have hk2 : P + k < s.size := by rw [ByteArray.size_extract] at hk; omega
  have := h.2 (P + k) hk2
  rw [ByteArray.getElem_extract]
  rw [this]
  simp [List.getD]
theorem sz_str {s : ByteArray} {zs : List Int} (h : Sz s zs) (hz : ∀ z ∈ zs, 0 ≤ z ∧ z < 256) : s = strOfNums zs := by
  have h2 := sz_of zs (range_of hz)
  refine ByteArray.ext (Array.ext (by have := h.1; have := h2.1; simp only [ByteArray.size] at *; omega) fun i h3 h4 => ?_)
  have e1 := h.2 i h3
  have e2 := h2.2 i h4
  have e3 : (s[i]'h3).toNat = ((strOfNums zs)[i]'h4).toNat := by omega
  exact UInt8.toNat_inj.1 e3
set_option maxRecDepth 100000 in
set_option maxHeartbeats 1600000 in
theorem refread_bad (w : World) (s : ByteArray) (zs : List Int) (hm : s.size ≤ 9223372036854775807) (hs : Sz s zs) (hz : ∀ z ∈ zs, 0 ≤ z ∧ z < 256) (x : Int) (hb : FrBad zs x) :
    Calls Try.prog 20 #[.string s] w fun e w' => e = .returned (.tuple #[.pointer none, .int .i64 x]) ∧ w' = w := by
  have hx := hb.ne
  have C1 := hide (reftake_any s zs w hm hs (range_of hz))
  have C2 : Hid (∀ a : Nat, a ≤ s.size → Calls Try.prog 29 #[.string (s.extract a s.size)] w fun e w' => e = .returned (tup (tk (zs.drop a) 0 0)) ∧ w' = w) := hide fun a ha =>
    reftake_any (s.extract a s.size) (zs.drop a) w (by rw [ByteArray.size_extract]; omega) (sz_drop hs a ha) (range_of fun z q => hz z (List.mem_of_mem_drop q))
  rcases hb with hb | ⟨k, n, a, b, hd, h1, h2, h3, h4, h5⟩
  · obtain ⟨k, a, x', h1, h2, h3, h4, h5⟩ := tk_form zs hz
    obtain ⟨-, hb⟩ := hb
    rw [h1] at C1 hb
    rcases hb with hb | ⟨k', a', e1, e2⟩
    · simp only at hb
      subst hb
      unfold tup at C1
      clear h1 C2 hs hz
      go_enter Try.func20, Try.ntmps20
      go_wp2_with fail
      refine C1.out.mono ?_
      rintro e w1 ⟨rfl, rfl⟩
      go_wp2
      go_ret2
      exact ⟨rfl, rfl⟩
    · simp only [Prod.mk.injEq] at e1
      obtain ⟨rfl, e3, rfl⟩ := e1
      obtain rfl : a = a' := by omega
      have ha : a ≤ s.size := by rw [hs.1]; exact h5
      have c2 := C2.out a ha
      obtain ⟨n, b, y, g1, _⟩ := tk_form (zs.drop a) fun z q => hz z (List.mem_of_mem_drop q)
      rw [g1] at e2 c2
      simp only at e2
      subst e2
      unfold tup at C1 c2
      have C3 := hide c2
      clear h1 C2 hs hz g1 c2 e3
      go_enter Try.func20, Try.ntmps20
      go_wp2_with fail
      refine C1.out.mono ?_
      rintro e w1 ⟨rfl, rfl⟩
      go_wp2_with fail
      refine C3.out.mono ?_
      rintro e w2 ⟨rfl, rfl⟩
      go_wp2
      go_ret2
      exact ⟨rfl, rfl⟩
  · have hsz := hs.1
    have c2 := C2.out a (by omega)
    rw [hd.2] at c2
    rw [hd.1] at C1
    unfold tup at C1 c2
    have C3 := hide c2
    have hL : ((zs.length - (a + b) : Nat) : Int) = (s.size : Int) - (a : Int) - (b : Int) := by omega
    rw [hL] at h5
    have hab : a + b ≤ s.size := by omega
    clear C2 c2 hd hz hs hL h2 hsz hx
    rcases h5 with ⟨rfl, h5⟩ | ⟨⟨k1, k2⟩, ⟨n1, n2⟩, ⟨rfl, h5⟩ | ⟨rfl, h5⟩⟩
    · go_enter Try.func20, Try.ntmps20
      go_wp2_with fail
      refine C1.out.mono ?_
      rintro e w1 ⟨rfl, rfl⟩
      go_wp2_with fail
      refine C3.out.mono ?_
      rintro e w2 ⟨rfl, rfl⟩
      by_cases q1 : k < 1
      · go_wp2
        go_ret2
        exact ⟨rfl, rfl⟩
      · by_cases q2 : 14 < k
        · go_wp2
          go_ret2
          exact ⟨rfl, rfl⟩
        · by_cases q3 : n < 8
          · go_wp2
            go_ret2
            exact ⟨rfl, rfl⟩
          · have q4 : 25000 < n := by omega
            go_wp2
            go_ret2
            exact ⟨rfl, rfl⟩
    · go_enter Try.func20, Try.ntmps20
      go_wp2_with fail
      refine C1.out.mono ?_
      rintro e w1 ⟨rfl, rfl⟩
      go_wp2_with fail
      refine C3.out.mono ?_
      rintro e w2 ⟨rfl, rfl⟩
      go_wp2
      go_ret2
      exact ⟨rfl, rfl⟩
    · go_enter Try.func20, Try.ntmps20
      go_wp2_with fail
      refine C1.out.mono ?_
      rintro e w1 ⟨rfl, rfl⟩
      go_wp2_with fail
      refine C3.out.mono ?_
      rintro e w2 ⟨rfl, rfl⟩
      go_wp2
      go_ret2
      exact ⟨rfl, rfl⟩
set_option maxRecDepth 100000 in
set_option maxHeartbeats 1600000 in
theorem refread_ok (w : World) (s : ByteArray) (zs : List Int) (hm : s.size ≤ 9223372036854775807) (hs : Sz s zs) (hz : ∀ z ∈ zs, 0 ≤ z ∧ z < 256) (k sz N : Nat) (hb : FrOk zs k sz N) :
    Calls Try.prog 20 #[.string s] w fun e w' => ∃ R, e = .returned (.tuple #[.pointer (some ⟨R, 0, none⟩), .int .i64 0]) ∧ ∃ ao cap, Rf w' R ao cap k sz N ∧ Below w.heap.size w w' := by
  obtain ⟨a, b, hd, h1, hk, hsz, hlen, rfl⟩ := hb
  have C1 := hide (reftake_any s zs w hm hs (range_of hz))
  have hss := hs.1
  have c2 := reftake_any (s.extract a s.size) (zs.drop a) w (by rw [ByteArray.size_extract]; omega) (sz_drop hs a (by omega)) (range_of fun z q => hz z (List.mem_of_mem_drop q))
  rw [hd.1] at C1
  rw [hd.2] at c2
  unfold tup at C1 c2
  have C2 := hide c2
  have hr : ∀ z ∈ zs.drop (a + b), 0 ≤ z ∧ z < 256 := fun z q => hz z (List.mem_of_mem_drop q)
  have e1 := sz_str (sz_drop hs (a + b) (by omega)) hr
  obtain ⟨cap, w1, hcv, hcap, hbl, hbs, -, -⟩ := str_bytes w (zs.drop (a + b)) hr
  have hll : (zs.drop (a + b)).length = sz := by rw [List.length_drop]; omega
  have hby := bys_rv _ hr
  rw [← e1, hll] at hcv
  rw [hll] at hbs hby hcap
  have FIN : Hid (Rf (w1.alloc (.cells #[.int .i64 k, .slice (some ⟨w.heap.size, 0, none⟩) sz cap] 43)) w1.heap.size (some ⟨w.heap.size, 0, none⟩) cap k sz (rv (zs.drop (a + b))) ∧ Below w.heap.size w (w1.alloc (.cells #[.int .i64 k, .slice (some ⟨w.heap.size, 0, none⟩) sz cap] 43))) := hide (by
    have hA := (Below.refl _ w1).alloc (Nat.le_refl _) (.cells #[.int .i64 k, .slice (some ⟨w.heap.size, 0, none⟩) sz cap] 43)
    exact ⟨⟨hpS w1 _ _ rfl, by rw [hby]; exact hbs.out.below hA (Nat.le_refl _)⟩, bmore hbl.out hA⟩)
  generalize rv (zs.drop (a + b)) = N at *
  have hS1 : s.size ≤ a + b + sz := by omega
  have hS2 : a + b + sz ≤ s.size := by omega
  clear hs hz hd c2 hr e1 hbl hbs hby hll hlen hss
  go_enter Try.func20, Try.ntmps20
  go_wp2_with fail
  refine C1.out.mono ?_
  rintro e w2 ⟨rfl, rfl⟩
  go_wp2_with fail
  refine C2.out.mono ?_
  rintro e w3 ⟨rfl, rfl⟩
  clear C1 C2
  go_wp2
  go_ret2
  exact ⟨_, rfl, _, _, FIN.out.1, FIN.out.2⟩

end Go.Proofs.Ytjphnflahpcaiaa.Clep
