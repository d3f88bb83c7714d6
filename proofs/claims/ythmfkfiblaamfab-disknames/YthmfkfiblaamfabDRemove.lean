/- What Remove of a Disk does when called (a walk over the translated program): for any Disk of fewer than 2^40 calls, any name of at most 2^46 bytes. -/
import Derived.Test.YthmfkfiblaamfabDLoop
namespace Go.Proofs.Ythmfkfiblaamfab.Clep
open Go.RowKit Go.Maps
set_option linter.unusedVariables false

def rmvS (S : St) (a : ByteArray) : Nat × St :=
  if okName a = false then (10, S)
  else if (beginS S).1 ≠ 0 then beginS S
  else if (fileAt (beginS S).2.files (lk (beginS S).2.names a)).isNone then (11, (beginS S).2)
  else (0, { (beginS S).2 with names := doS (beginS S).2.names ⟨2, a, ⟨#[]⟩, 0⟩, since := (beginS S).2.since ++ [⟨2, a, ⟨#[]⟩, 0⟩] })
set_option maxHeartbeats 400000 in
set_option maxRecDepth 4000 in
theorem remove_any (R : Nat) (S : St) (G : Gh) (a : ByteArray) (w : World) (h : DiskIs w R S G) (hm : S.calls < 1099511627776) (ha : a.size ≤ 70368744177664) :
    Calls Try.prog 18 #[.pointer (some ⟨R, 0, none⟩), .string a] w fun e w' => e = .returned (.int .i64 (rmvS S a).1) ∧ ∃ G', DiskIs w' R (rmvS S a).2 G' ∧ Kept G G' w w' := by
  have H := hide h
  have BA := (Below.refl w.heap.size w).alloc (Nat.le_refl _) (.cells #[.string a] 9)
  have BG := hide (begin_any R S G (some ⟨w.heap.size, 0, none⟩) [a] _ (h.below BA) (by omega) (by simp) (txts_one w a) (by simpa using ha))
  have HA := hide BA
  clear h BA
  go_enter Try.func18, Try.ntmps18
  go_wp2_with fail
  refine BG.out.mono ?_
  clear BG
  generalize w.alloc (.cells #[.string a] 9) = wA at *
  rintro e w1 (⟨hno, rfl, rfl⟩ | ⟨hyes, rfl, D1, K1⟩)
  · have hc : rmvS S a = (10, S) := by
      unfold rmvS; rw [if_pos]
      simpa using hno
    have HC := hide hc
    clear hc
    go_wp2
    go_ret
    exact ⟨by rw [HC.out]; rfl, by rw [HC.out]; exact ⟨G, H.out.below HA.out, Kept.of_below HA.out⟩⟩
  · have hk := begin_keeps S
    have hy : okName a = true := by simpa using hyes
    obtain ⟨e1, S1, hb'⟩ : ∃ e1 S1, beginS S = (e1, S1) := ⟨_, _, rfl⟩
    have hc0 : rmvS S a = if e1 ≠ 0 then (e1, S1) else if (fileAt S1.files (lk S1.names a)).isNone then (11, S1) else (0, { S1 with names := doS S1.names ⟨2, a, ⟨#[]⟩, 0⟩, since := S1.since ++ [⟨2, a, ⟨#[]⟩, 0⟩] }) := by
      unfold rmvS; rw [if_neg (by rw [hy]; simp), hb']
    have HC := hide hc0
    have KK := hide ((Kept.of_below (G := G) HA.out).trans K1)
    rw [hb'] at D1 hk ⊢
    have HD := hide D1
    have HK := hide hk
    clear hc0 K1 D1 hk hyes hb'
    simp only at HD HK ⊢
    by_cases he : e1 = 0
    · subst he
      have hF := hide (find_disk R S1 G a w1 HD.out ha)
      go_wp2_with fail
      refine hF.out.mono ?_
      rintro e w2 ⟨rfl, b2⟩
      have HD2 := hide (HD.out.below b2)
      have KK2 := hide (KK.out.trans (Kept.of_below b2))
      clear b2 hF KK HD
      cases hf : fileAt S1.files (lk S1.names a) with
      | none =>
        have HC2 := hide (show rmvS S a = (11, S1) by rw [HC.out, hf]; rfl)
        simp only [ptrOf]
        go_wp2
        go_ret
        exact ⟨by rw [HC2.out]; rfl, by rw [HC2.out]; exact ⟨G, HD2.out, KK2.out⟩⟩
      | some f =>
        simp only [ptrOf]
        have HC2 := hide (show rmvS S a = (0, { S1 with names := doS S1.names ⟨2, a, ⟨#[]⟩, 0⟩, since := S1.since ++ [⟨2, a, ⟨#[]⟩, 0⟩] }) by rw [HC.out, hf]; simp)
        have hcl : S1.calls ≤ 1099511627776 := by have := HK.out.1; omega
        have CH : Calls Try.prog 27 #[.pointer (some ⟨R, 0, none⟩), .agg #[.int .i64 2, .string a, .string ⟨#[]⟩, .int .i64 0]] w2 _ :=
          change_any R _ G ⟨2, a, ⟨#[]⟩, 0⟩ w2 HD2.out hcl (okName_le hy).2 (Nat.zero_le _) (by show 2 ≤ 2; omega) (Nat.zero_le _) (ok_change HK.out H.out.ok HD2.out.ok (okName_le hy).2 (Nat.zero_le _) (.inr rfl) (Nat.zero_le _) (size_do (HD2.out.nm.tidy lawS) _))
        have HCH := hide CH
        clear CH
        go_wp2_with fail
        refine HCH.out.mono ?_
        rintro e w3 ⟨rfl, G3, D3, K3⟩
        have HD3 := hide D3
        have HK3 := hide (KK2.out.trans K3)
        clear D3 K3
        go_wp2
        go_ret
        exact ⟨by rw [HC2.out]; rfl, by rw [HC2.out]; exact ⟨G3, HD3.out, HK3.out⟩⟩
    · have HC2 := hide (show rmvS S a = (e1, S1) by rw [HC.out, if_pos he])
      have hne : ¬ ((e1 : Int) = 0) := by omega
      go_wp2
      go_ret
      exact ⟨by rw [HC2.out]; rfl, by rw [HC2.out]; exact ⟨G, HD.out, KK.out⟩⟩

theorem remove_h {F : Nat → Prop} {R : Nat} {S : St} {w : World} (a : ByteArray) {E : Nat} {S' : St} (e : rmvS S a = (E, S')) (h : Held F w R S) (hm : S.calls < 1099511627776) (ha : a.size ≤ 70368744177664) :
    Calls Try.prog 18 #[.pointer (some ⟨R, 0, none⟩), .string a] w fun e w' => e = .returned (.int .i64 E) ∧ Held F w' R S' ∧ Same F w w' := by
  obtain ⟨G, D, hF⟩ := h
  refine (remove_any R S G a w D hm ha).mono ?_
  rw [e]
  rintro e w' ⟨rfl, G', D', K⟩
  exact ⟨rfl, Held.keep hF D' K⟩

end Go.Proofs.Ythmfkfiblaamfab.Clep
