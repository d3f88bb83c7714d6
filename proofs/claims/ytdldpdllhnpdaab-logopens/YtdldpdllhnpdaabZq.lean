/- What the document's own Unframe (package clepsydraref1) does when called: for any text of at most a million bytes, any place. -/
import Derived.Test.YtdldpdllhnpdaabZk
import Derived.BigRegion
namespace Go.Proofs.Ytdldpdllhnpdaab.Clep
open Go.RowKit
set_option linter.unusedVariables false
set_option maxRecDepth 10000

theorem str_cut (zs : List Int) (a b : Nat) (h : b ≤ zs.length) : (strOfNums zs).extract a b = strOfNums ((zs.take b).drop a) := by
  apply ByteArray.ext
  simp [strOfNums, List.map_take, List.map_drop, List.drop_take]

theorem unframe_arg (s : ByteArray) (p : Int) (w : World) (hm : s.size ≤ 1000000) (hp : p < 0 ∨ (s.size : Int) < p) :
    Calls Try.prog 22 #[.string s, .int .i64 p] w fun e w' => e = .returned (.tuple #[.int .i64 0, .string ⟨#[]⟩, .int .i64 0, .int .i64 1]) ∧ w' = w := by
  go_enter Try.func22, Try.ntmps22
  rcases hp with hp | hp
  · go_wp2
    refine bodyPost_ret (by simp [results, Try.results22, go_sem]) rfl ⟨rfl, rfl⟩
  · have hp2 : ¬ p < 0 := by omega
    go_wp2
    refine bodyPost_ret (by simp [results, Try.results22, go_sem]) rfl ⟨rfl, rfl⟩
theorem unframe_short (s : ByteArray) (P : Nat) (w : World) (hm : s.size ≤ 1000000) (hp : P ≤ s.size) (h8 : s.size < P + 8) :
    Calls Try.prog 22 #[.string s, .int .i64 P] w fun e w' => e = .returned (.tuple #[.int .i64 0, .string ⟨#[]⟩, .int .i64 0, .int .i64 4]) ∧ w' = w := by
  go_enter Try.func22, Try.ntmps22
  go_wp2
  refine bodyPost_ret (by simp [results, Try.results22, go_sem]) rfl ⟨rfl, rfl⟩

theorem refopen_err (Y : List Int) (w : World) (n : Nat) (hn : Y.length = n + 4) (hm : n ≤ 1000000) (hr : ByteL Y) :
    Calls Try.prog 35 #[.string (strOfNums Y)] w fun e w' => Below w.heap.size w w' ∧ e = .returned (.tuple #[.string (if nn (Y.drop n) = crc (Y.take n) then strOfNums (Y.take n) else ⟨#[]⟩), .int .i64 (if nn (Y.drop n) = crc (Y.take n) then 0 else 5)]) := by
  refine (refopen_long (strOfNums Y) Y w n rfl hn hm hr).mono ?_
  rintro e w1 ⟨hb, ⟨hg, he⟩ | ⟨hg, he⟩⟩
  · exact ⟨hb, by rw [he, if_pos (show nn (Y.drop n) = crc (Y.take n) from hg), if_pos (show nn (Y.drop n) = crc (Y.take n) from hg)]⟩
  · exact ⟨hb, by rw [he, if_neg (show ¬ nn (Y.drop n) = crc (Y.take n) from hg), if_neg (show ¬ nn (Y.drop n) = crc (Y.take n) from hg)]⟩

/-- What Unframe tells of the frame that X begins with. -/
def un (X : List Int) (P : Nat) : Value := if ce X = 0 then .tuple #[.int .i64 (kd X), .string (strOfNums (bo X)), .int .i64 (P + 12 + ln X), .int .i64 0] else .tuple #[.int .i64 0, .string ⟨#[]⟩, .int .i64 0, .int .i64 (ce X)]

set_option maxHeartbeats 400000 in
theorem unframe_long (zs : List Int) (P : Nat) (w : World) (hm : zs.length ≤ 1000000) (hr : ByteL zs) (h8 : P + 8 ≤ zs.length) (X : List Int) (hX : X = zs.drop P) :
    Calls Try.prog 22 #[.string (strOfNums zs), .int .i64 P] w fun e w' => e = .returned (un X P) ∧ Below w.heap.size w w' := by
  have hs : (strOfNums zs).size = zs.length := str_size zs
  have hXl : X.length = zs.length - P := by rw [hX, List.length_drop]
  have hXr : ByteL X := by rw [hX]; exact ByteL.drop hr P
  have hlr := ln_range X (range_of hXr)
  have hn8 : ¬ X.length < 8 := by omega
  have hce : ce X = if he X ≠ 0 then he X else if kd X < 1 ∨ 100 < kd X ∨ 60000 < ln X then 3 else if X.length < (ln X).toNat + 12 then 4 else be X := by unfold ce; rw [if_neg hn8]
  have HC := hide hce
  have e1 : (strOfNums zs).extract P (P + 8) = strOfNums (X.take 8) := by
    rw [str_cut zs P (P + 8) h8, List.drop_take, show P + 8 - P = 8 from by omega, hX]
  have C1 := hide (fun W => refopen_err (X.take 8) W 4 (by rw [List.length_take]; omega) (by omega) (ByteL.take hXr 8))
  rw [show (if nn ((X.take 8).drop 4) = crc ((X.take 8).take 4) then (0 : Int) else 5) = he X from rfl] at C1
  have hT := sz_of ((X.take 8).take 4) (range_of (ByteL.take (ByteL.take hXr 8) 4))
  have ht4 : (strOfNums ((X.take 8).take 4)).size = 4 := by rw [str_size, List.length_take, List.length_take]; omega
  have v0 : ((X.take 8).take 4).getD 0 0 = kd X := by unfold kd; simp [List.getD]
  have v1 : ((X.take 8).take 4).getD 1 0 = X.getD 1 0 := by simp [List.getD]
  have v2 : ((X.take 8).take 4).getD 2 0 = X.getD 2 0 := by simp [List.getD]
  have v3 : ((X.take 8).take 4).getD 3 0 = X.getD 3 0 := by simp [List.getD]
  have r1 := range_of hXr 1
  have r2 := range_of hXr 2
  have r3 := range_of hXr 3
  have r0 := range_of hXr 0
  have hbits := head_bits _ _ _ r1 r2 r3
  rw [show X.getD 1 0 * 65536 + X.getD 2 0 * 256 + X.getD 3 0 = ln X from rfl] at hbits
  by_cases h1 : he X = 0
  · have hq : (if nn ((X.take 8).drop 4) = crc ((X.take 8).take 4) then strOfNums ((X.take 8).take 4) else ⟨#[]⟩) = strOfNums ((X.take 8).take 4) := by
      rcases Classical.em (nn ((X.take 8).drop 4) = crc ((X.take 8).take 4)) with h | h
      · rw [if_pos h]
      · unfold he at h1; rw [if_neg h] at h1; cases h1
    rw [hq, h1] at C1
    have HC1 := hide (show ce X = if kd X < 1 ∨ 100 < kd X ∨ 60000 < ln X then 3 else if X.length < (ln X).toNat + 12 then 4 else be X by rw [HC.out, if_neg (by simp [h1])])
    have r0' : 0 ≤ kd X ∧ kd X < 256 := r0
    clear r0
    have cK := hide (fun W => frameok_any (kd X) (ln X) W)
    have C3 : (ln X).toNat + 12 ≤ zs.length - P → Hid (∀ W, Calls Try.prog 35 #[.string (strOfNums (bd X))] W fun e w' => Below W.heap.size W w' ∧ e = .returned (.tuple #[.string (if be X = 0 then strOfNums (bo X) else ⟨#[]⟩), .int .i64 (be X)])) := fun hl => hide fun W => by
      have := refopen_err (bd X) W (ln X).toNat (by unfold bd; rw [List.length_drop, List.length_take]; omega) (by omega) (by unfold bd; exact ByteL.drop (ByteL.take hXr _) _)
      have e5 : (if be X = 0 then strOfNums (bo X) else ⟨#[]⟩) = (if nn ((bd X).drop (ln X).toNat) = crc ((bd X).take (ln X).toNat) then strOfNums ((bd X).take (ln X).toNat) else ⟨#[]⟩) := by
        unfold be bo
        split
        · exact if_pos rfl
        · exact if_neg (by decide)
      rw [e5]
      exact this
    have E3 : (ln X).toNat + 12 ≤ zs.length - P → (strOfNums zs).extract (P + 8) (P + 12 + (ln X).toNat) = strOfNums (bd X) := fun hl => by
      rw [str_cut zs _ _ (by omega)]
      congr 1
      unfold bd
      rw [hX, ← List.drop_drop, List.drop_take, show P + 12 + (ln (zs.drop P)).toNat - P = (ln (zs.drop P)).toNat + 12 from by omega]
    clear HC hq hX h1 hr hce
    generalize strOfNums ((X.take 8).take 4) = H4 at *
    have g0 := hT.2 0 (by rw [ht4]; omega)
    have g1 := hT.2 1 (by rw [ht4]; omega)
    have g2 := hT.2 2 (by rw [ht4]; omega)
    have g3 := hT.2 3 (by rw [ht4]; omega)
    rw [v0] at g0
    rw [v1] at g1
    rw [v2] at g2
    rw [v3] at g3
    clear hT v0 v1 v2 v3
    generalize strOfNums (X.take 8) = S8 at *
    generalize strOfNums (bd X) = SD at *
    generalize hbo : strOfNums (bo X) = SO at *
    generalize strOfNums zs = S at *
    generalize X.getD 1 0 = z1 at *
    generalize X.getD 2 0 = z2 at *
    generalize X.getD 3 0 = z3 at *
    by_cases hk : kd X < 1 ∨ 100 < kd X ∨ 60000 < ln X
    · have H5 := hide (show ce X = 3 by rw [HC1.out, if_pos hk])
      have HU := hide (show un X P = .tuple #[.int .i64 0, .string ⟨#[]⟩, .int .i64 0, .int .i64 3] by unfold un; rw [if_neg (by rw [H5.out]; decide), H5.out])
      have hfk : fk (kd X) (ln X) = 1 ∨ fk (kd X) (ln X) = 2 := by
        unfold fk; split
        · exact .inl rfl
        · rename_i h; rw [if_pos (by omega)]; exact .inr rfl
      generalize fk (kd X) (ln X) = FK at *
      have hfk0 : ¬ FK = 0 := by omega
      generalize kd X = KD at *
      generalize ln X = LN at *
      clear C3 E3 HC1 hk hfk
      go_enter Try.func22, Try.ntmps22
      go_wp2_with fail
      refine (C1.out _).mono ?_
      rintro e w1 ⟨hb, rfl⟩
      have HB := hide hb
      clear hb C1
      go_wp2_with fail
      go_region
      go_wp2_with fail
      refine (cK.out _).mono ?_
      rintro e w2 ⟨rfl, hw2⟩
      have HB2 := hide (show Below w.heap.size w w2 by rw [hw2]; exact HB.out.drew)
      clear hw2
      go_wp2
      refine bodyPost_ret (by simp [results, Try.results22, go_sem]; rfl) rfl ⟨by rw [HU.out], HB2.out⟩
    · have HC2 := hide (show ce X = if X.length < (ln X).toNat + 12 then 4 else be X by rw [HC1.out, if_neg hk])
      have hk1 : ¬ kd X < 1 := by omega
      have hk2 : ¬ 100 < kd X := by omega
      have hk3 : ¬ 60000 < ln X := by omega
      rw [show fk (kd X) (ln X) = 0 from by unfold fk; rw [if_neg (by omega), if_neg hk3]] at cK
      clear HC1 hk
      by_cases hl : X.length < (ln X).toNat + 12
      · have H5 := hide (show ce X = 4 by rw [HC2.out, if_pos hl])
        have HU := hide (show un X P = .tuple #[.int .i64 0, .string ⟨#[]⟩, .int .i64 0, .int .i64 4] by unfold un; rw [if_neg (by rw [H5.out]; decide), H5.out])
        clear C3 E3 HC2
        have hlt : (zs.length : Int) - (P : Int) - 8 < ln X + 4 := by omega
        generalize kd X = KD at *
        generalize ln X = LN at *
        go_enter Try.func22, Try.ntmps22
        go_wp2_with fail
        refine (C1.out _).mono ?_
        rintro e w1 ⟨hb, rfl⟩
        have HB := hide hb
        clear hb C1
        go_wp2_with fail
        go_region
        go_wp2_with fail
        refine (cK.out _).mono ?_
        rintro e w2 ⟨rfl, hw2⟩
        have HB2 := hide (show Below w.heap.size w w2 by rw [hw2]; exact HB.out.drew)
        clear hw2 HB cK
        go_wp2
        refine bodyPost_ret (by simp [results, Try.results22, go_sem]; rfl) rfl ⟨by rw [HU.out], HB2.out⟩
      · have H5 := hide (show ce X = be X by rw [HC2.out, if_neg hl])
        have c3 := C3 (by omega)
        have e3 := E3 (by omega)
        have HU := hide (show un X P = if be X = 0 then .tuple #[.int .i64 (kd X), .string SO, .int .i64 (P + 12 + ln X), .int .i64 0] else .tuple #[.int .i64 0, .string ⟨#[]⟩, .int .i64 0, .int .i64 (be X)] by unfold un; rw [H5.out, hbo])
        clear C3 E3 HC2 H5 hbo
        generalize be X = E at *
        generalize kd X = KD at *
        generalize ln X = LN at *
        obtain ⟨N, rfl⟩ := Int.eq_ofNat_of_zero_le hlr.1
        simp only [Int.toNat_natCast] at e3 hl
        have hge : ¬ (zs.length : Int) - (P : Int) - 8 < (N : Int) + 4 := by omega
        have hPN : P + 12 + N ≤ zs.length := by omega
        by_cases hE : E = 0
        · rw [if_pos hE] at HU c3
          subst hE
          go_enter Try.func22, Try.ntmps22
          go_wp2_with fail
          refine (C1.out _).mono ?_
          rintro e w1 ⟨hb, rfl⟩
          have HB := hide hb
          clear hb C1
          go_wp2_with fail
          go_region
          go_wp2_with fail
          refine (cK.out _).mono ?_
          rintro e w2 ⟨rfl, hw2⟩
          have HB2 := hide (show Below w.heap.size w w2 by rw [hw2]; exact HB.out.drew)
          clear hw2 HB cK
          go_wp2_with fail
          refine (c3.out _).mono ?_
          rintro e w3 ⟨hb3, rfl⟩
          have HB3 := hide (HB2.out.trans (hb3.mono HB2.out.size))
          clear hb3 c3
          go_wp2
          refine bodyPost_ret (by simp [results, Try.results22, go_sem]; rfl) rfl ⟨by rw [HU.out], HB3.out⟩
        · rw [if_neg hE] at HU c3
          go_enter Try.func22, Try.ntmps22
          go_wp2_with fail
          refine (C1.out _).mono ?_
          rintro e w1 ⟨hb, rfl⟩
          have HB := hide hb
          clear hb C1
          go_wp2_with fail
          go_region
          go_wp2_with fail
          refine (cK.out _).mono ?_
          rintro e w2 ⟨rfl, hw2⟩
          have HB2 := hide (show Below w.heap.size w w2 by rw [hw2]; exact HB.out.drew)
          clear hw2 HB cK
          go_wp2_with fail
          refine (c3.out _).mono ?_
          rintro e w3 ⟨hb3, rfl⟩
          have HB3 := hide (HB2.out.trans (hb3.mono HB2.out.size))
          clear hb3 c3
          go_wp2
          refine bodyPost_ret (by simp [results, Try.results22, go_sem]; rfl) rfl ⟨by rw [HU.out], HB3.out⟩
  · have hu : un X P = .tuple #[.int .i64 0, .string ⟨#[]⟩, .int .i64 0, .int .i64 (he X)] := by
      have h5 : ce X = he X := by rw [HC.out, if_pos h1]
      unfold un; rw [if_neg (by rw [h5]; exact h1), h5]
    have HU := hide hu
    have hq : (if nn ((X.take 8).drop 4) = crc ((X.take 8).take 4) then strOfNums ((X.take 8).take 4) else ⟨#[]⟩) = ⟨#[]⟩ := by
      rw [if_neg (fun h => h1 (by unfold he; rw [if_pos h]))]
    rw [hq] at C1
    clear hu hq hbits v0 v1 v2 v3 hT ht4 HC hce
    generalize he X = E at *
    generalize strOfNums (X.take 8) = S8 at *
    generalize strOfNums zs = S at *
    go_enter Try.func22, Try.ntmps22
    go_wp2_with fail
    refine (C1.out _).mono ?_
    rintro e w1 ⟨hb, rfl⟩
    have HB := hide hb
    clear hb C1
    go_wp2
    refine bodyPost_ret (by simp [results, Try.results22, go_sem]; rfl) rfl ⟨by rw [HU.out], HB.out⟩

theorem unframe_any (zs : List Int) (P : Nat) (w : World) (hm : zs.length ≤ 1000000) (hr : ByteL zs) (hP : P ≤ zs.length) :
    Calls Try.prog 22 #[.string (strOfNums zs), .int .i64 P] w fun e w' => e = .returned (un (zs.drop P) P) ∧ Below w.heap.size w w' := by
  by_cases h8 : zs.length < P + 8
  · have hc : ce (zs.drop P) = 4 := by unfold ce; rw [if_pos (by rw [List.length_drop]; omega)]
    have hu : un (zs.drop P) P = .tuple #[.int .i64 0, .string ⟨#[]⟩, .int .i64 0, .int .i64 4] := by unfold un; rw [if_neg (by rw [hc]; decide), hc]
    rw [hu]
    refine (unframe_short (strOfNums zs) P w (by rw [str_size]; omega) (by rw [str_size]; omega) (by rw [str_size]; omega)).mono ?_
    rintro e w1 ⟨he, rfl⟩
    exact ⟨he, Below.refl _ _⟩
  · exact unframe_long zs P w hm hr (by omega) _ rfl

end Go.Proofs.Ytdldpdllhnpdaab.Clep
