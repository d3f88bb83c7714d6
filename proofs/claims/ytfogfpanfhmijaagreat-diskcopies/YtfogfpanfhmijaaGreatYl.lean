/- What Stop, Fail and Dead of a Disk do when called (walks over the translated program): for numbers of at most 2^40, any Disk. -/
import Derived.Test.YtfogfpanfhmijaaGreatYj
namespace Go.Proofs.YtfogfpanfhmijaaGreat.Clep
open Go.RowKit Go.Maps
set_option linter.unusedVariables false

theorem dead_h {F : Nat → Prop} {R : Nat} {S : St} {w : World} (h : Held F w R S) :
    Calls Tryz.prog 51 #[.pointer (some ⟨R, 0, none⟩)] w fun e w' => e = .returned (.bool S.dead) ∧ w' = w := by
  obtain ⟨G, D, hF⟩ := h
  have c4 := D.cells.1.2.2.2.2
  clear D hF
  go_enter Tryz.func51, Tryz.ntmps51
  go_wp2
  go_ret
  exact ⟨rfl, rfl⟩
theorem fail_h {F : Nat → Prop} {R : Nat} {S : St} {w : World} (n : Nat) (hn : n ≤ 1099511627776) (h : Held F w R S) :
    Calls Tryz.prog 31 #[.pointer (some ⟨R, 0, none⟩), .int .i64 n] w fun e w' => e = .returned (.tuple #[]) ∧ Held F w' R { S with fail := n } ∧ Same F w w' := by
  obtain ⟨G, D, hF⟩ := h
  have c3 := D.cells.1.2.2.2.1
  have f3 := D.cells.2.2 3
  have D2 := D.put (S' := { S with fail := n }) 3 (.int .i64 n) rfl rfl rfl rfl rfl (Nat.le_refl _) (D.ok.scal _ _ _ _ (Nat.le_refl _) D.ok.stp (by omega))
  have HE := hide (Held.keep hF D2 (kept_set (G := G) (b := R) 3 (.int .i64 n) (by rw [D.tR]; omega)))
  have hqz : ¬ ((n : Int) < 0) := by omega
  have hmx : max (n : Int) 0 = n := by omega
  clear D D2 hF
  go_enter Tryz.func31, Tryz.ntmps31
  go_wp2
  go_end0
  exact ⟨rfl, HE.out⟩
theorem stop_h {F : Nat → Prop} {R : Nat} {S : St} {w : World} (n : Nat) (hn : n ≤ 1099511627776) (hd : S.dead = false) (h : Held F w R S) :
    Calls Tryz.prog 29 #[.pointer (some ⟨R, 0, none⟩), .int .i64 n] w fun e w' => e = .returned (.tuple #[]) ∧ Held F w' R { S with stop := n, dead := decide (n = 0) } ∧ Same F w w' := by
  obtain ⟨G, D, hF⟩ := h
  have c2 := D.cells.1.2.2.1
  have f2 := D.cells.2.2 2
  have hok := D.ok
  by_cases h0 : n = 0
  · subst h0
    have D2 := D.put (S' := { S with stop := 0 }) 2 (.int .i64 0) rfl rfl rfl rfl rfl (Nat.le_refl _) (D.ok.scal _ _ _ _ (Nat.le_refl _) (by omega) D.ok.fai)
    have K2 := kept_set (G := G) (w := w) (b := R) 2 (.int .i64 0) (by rw [D.tR]; omega)
    have k4 := D2.cells.1.2.2.2.2
    have g4 := D2.cells.2.2 4
    have D3 := D2.put (S' := { S with stop := 0, dead := true }) 4 (.bool true) rfl rfl rfl rfl rfl (Nat.le_refl _) (hok.scal _ _ _ _ (Nat.le_refl _) (by omega) hok.fai)
    have HE := hide (Held.keep hF D3 (K2.trans (kept_set (G := G) (b := R) 4 (.bool true) (by rw [D.tR]; omega))))
    clear D D2 D3 K2 hF hok
    go_enter Tryz.func29, Tryz.ntmps29
    go_wp2
    go_end0
    exact ⟨rfl, HE.out⟩
  · have D2 := D.put (S' := { S with stop := n }) 2 (.int .i64 n) rfl rfl rfl rfl rfl (Nat.le_refl _) (D.ok.scal _ _ _ _ (Nat.le_refl _) (by omega) D.ok.fai)
    have K2 := kept_set (G := G) (w := w) (b := R) 2 (.int .i64 n) (by rw [D.tR]; omega)
    have hqz : ¬ ((n : Int) < 0) := by omega
    have hmx : max (n : Int) 0 = n := by omega
    have HE := hide (Held.keep hF D2 K2)
    have h0' : ¬ ((n : Int) = 0) := by omega
    have HS := hide (show ({ S with stop := n, dead := false } : St) = { S with stop := n } by rw [← hd])
    clear D D2 K2 hF hok
    go_enter Tryz.func29, Tryz.ntmps29
    go_wp2
    go_end0
    rw [HS.out]
    exact ⟨rfl, HE.out⟩

def apB (b : Nat × St) (s : ByteArray) (zs : List Int) : Nat × St := if b.1 ≠ 0 then b else match fileAt b.2.files (lk b.2.names s) with
    | none => (11, b.2)
    | some f => if 250000 < f.bs.length + zs.length then (2, b.2)
      else if b.2.q < usedS b.2 + zs.length then (15, b.2)
      else (0, { b.2 with files := updF b.2.files f.num (growF zs) })
theorem appendS_eq (S : St) (s : ByteArray) (zs : List Int) (h : okName s = true) : appendS S s zs = apB (beginS S) s zs := by
  unfold appendS
  rw [if_neg (by rw [h]; simp)]
  rfl
def sts (n f k : Nat) (X : List Int) : St := ⟨1048576, 2 + k, n - k, f - min k n, decide (n ≤ k), 1, [⟨1, X, 0⟩], .map [(nF, i64L 1)], .map [(nF, i64L 1)], []⟩
def stW (n f k : Nat) : Nat := if n < k + 1 then 50 else if k + 1 = f then 15 else 0
theorem stops1 : syncDirS (ls1 1 []) = (0, lsg 2 [] 0) := by kernel_rfl
theorem stops2 (n f : Nat) : ({ ({ (lsg 2 [] 0) with stop := n, dead := decide (n = 0) } : St) with fail := f } : St) = sts n f 0 [] := by
  unfold sts lsg
  simp
theorem stops_begin (n f k : Nat) (X : List Int) (h : k < n) : beginS (sts n f k X) = (if f = k + 1 then 15 else 0, sts n f (k + 1) X) := by
  unfold beginS
  rw [if_neg (by show ¬ (decide (n ≤ k) = true); simp; omega)]
  have e1 : (if (sts n f k X).fail = 1 then 15 else 0) = (if f = k + 1 then 15 else 0) := by
    show (if f - min k n = 1 then 15 else 0) = _
    rw [show min k n = k from by omega]
    by_cases hf : f = k + 1
    · rw [if_pos hf, if_pos (by omega)]
    · rw [if_neg hf, if_neg (by omega)]
  rw [e1]
  congr 1
  unfold sts
  simp only
  have a1 : 2 + k + 1 = 2 + (k + 1) := by omega
  have a2 : n - k - 1 = n - (k + 1) := by omega
  have a3 : f - min k n - 1 = f - min (k + 1) n := by omega
  have a4 : decide (n - k = 1) = decide (n ≤ k + 1) := by rw [Bool.eq_iff_iff]; simp; omega
  rw [a1, a2, a3, a4]
theorem stops3 (n f k : Nat) (X p : List Int) (hX : X.length + p.length ≤ 250000) : appendS (sts n f k X) bF p = (stW n f k, sts n f (k + 1) (if stW n f k = 0 then X ++ p else X)) := by
  by_cases h : n ≤ k
  · have hb : beginS (sts n f k X) = (50, sts n f (k + 1) X) := by
      unfold beginS
      rw [if_pos (by show decide (n ≤ k) = true; simpa using h)]
      congr 1
      unfold sts
      simp only
      have a1 : 2 + k + 1 = 2 + (k + 1) := by omega
      have a2 : n - k = n - (k + 1) := by omega
      have a3 : min k n = min (k + 1) n := by omega
      have a4 : decide (n ≤ k) = decide (n ≤ k + 1) := by rw [Bool.eq_iff_iff]; simp; omega
      rw [a1, a2, a3, a4]
    have hw : stW n f k = 50 := by unfold stW; rw [if_pos (by omega)]
    rw [appendS_eq _ _ _ (by decide), hb, hw, if_neg (show ¬ (50 = 0) by omega)]
    rfl
  · have hb := stops_begin n f k X (by omega)
    rw [appendS_eq _ _ _ (by decide), hb]
    by_cases hf : f = k + 1
    · have hw : stW n f k = 15 := by unfold stW; rw [if_neg (by omega), if_pos hf.symm]
      rw [if_pos hf, hw, if_neg (show ¬ (15 = 0) by omega)]
      rfl
    · have hw : stW n f k = 0 := by unfold stW; rw [if_neg (by omega), if_neg (fun e => hf e.symm)]
      rw [if_neg hf, hw, if_pos rfl]
      have e : apB (0, sts n f (k + 1) X) bF p = if 250000 < X.length + p.length then (2, sts n f (k + 1) X) else if 1048576 < X.length + 0 + p.length then (15, sts n f (k + 1) X) else (0, sts n f (k + 1) (X ++ p)) := by kernel_rfl
      rw [e, if_neg (by omega), if_neg (by omega)]
theorem stops4 (n f k : Nat) (X : List Int) : crashS (sts n f k X) [] = lsg (2 + k) X X.length := by
  have e : crashS (sts n f k X) [] = lsg (2 + k) (X.take (0 + keepN ⟨1, X, 0⟩ [])) (0 + keepN ⟨1, X, 0⟩ []) := by kernel_rfl
  have hk : keepN ⟨1, X, 0⟩ [] = X.length := by
    unfold keepN
    simp only
    split <;> omega
  rw [e, hk, Nat.zero_add, List.take_length]

end Go.Proofs.YtfogfpanfhmijaaGreat.Clep

/- What Remove of a Disk does when called (a walk over the translated program): for any Disk of fewer than 2^40 calls, any name of at most 2^46 bytes. -/
namespace Go.Proofs.YtfogfpanfhmijaaGreat.Clep
open Go.RowKit Go.Maps
set_option linter.unusedVariables false

def rmvS (S : St) (a : ByteArray) : Nat × St :=
  if okName a = false then (10, S)
  else if (beginS S).1 ≠ 0 then beginS S
  else if (fileAt (beginS S).2.files (lk (beginS S).2.names a)).isNone then (11, (beginS S).2)
  else (0, { (beginS S).2 with names := doS (beginS S).2.names ⟨2, a, ⟨#[]⟩, 0⟩, since := (beginS S).2.since ++ [⟨2, a, ⟨#[]⟩, 0⟩] })
set_option maxHeartbeats 400000 in
set_option maxRecDepth 4000 in
theorem remove_any (R : Nat) (S : St) (G : Gh) (a : ByteArray) (w : World) (h : DiskIs w R S G) (hm : S.calls < 1099511627776) (ha : a.size ≤ 70368744177664) :
    Calls Tryz.prog 25 #[.pointer (some ⟨R, 0, none⟩), .string a] w fun e w' => e = .returned (.int .i64 (rmvS S a).1) ∧ ∃ G', DiskIs w' R (rmvS S a).2 G' ∧ Kept G G' w w' := by
  have H := hide h
  have BA := (Below.refl w.heap.size w).alloc (Nat.le_refl _) (.cells #[.string a] 9)
  have BG := hide (begin_any R S G (some ⟨w.heap.size, 0, none⟩) [a] _ (h.below BA) (by omega) (by simp) (txts_one w a) (by simpa using ha))
  have HA := hide BA
  clear h BA
  go_enter Tryz.func25, Tryz.ntmps25
  go_wp2_with fail
  refine BG.out.mono ?_
  clear BG
  generalize w.alloc (.cells #[.string a] 9) = wA at *
  rintro e w1 (⟨hno, rfl, rfl⟩ | ⟨hyes, rfl, D1, K1⟩)
  · have hc : rmvS S a = (10, S) := by
      unfold rmvS; rw [if_pos]
      simpa using hno
    have HC := hide hc
    clear hc
    go_wp2
    go_ret
    exact ⟨by rw [HC.out]; rfl, by rw [HC.out]; exact ⟨G, H.out.below HA.out, Kept.of_below HA.out⟩⟩
  · have hk := begin_keeps S
    have hy : okName a = true := by simpa using hyes
    obtain ⟨e1, S1, hb'⟩ : ∃ e1 S1, beginS S = (e1, S1) := ⟨_, _, rfl⟩
    have hc0 : rmvS S a = if e1 ≠ 0 then (e1, S1) else if (fileAt S1.files (lk S1.names a)).isNone then (11, S1) else (0, { S1 with names := doS S1.names ⟨2, a, ⟨#[]⟩, 0⟩, since := S1.since ++ [⟨2, a, ⟨#[]⟩, 0⟩] }) := by
      unfold rmvS; rw [if_neg (by rw [hy]; simp), hb']
    have HC := hide hc0
    have KK := hide ((Kept.of_below (G := G) HA.out).trans K1)
    rw [hb'] at D1 hk ⊢
    have HD := hide D1
    have HK := hide hk
    clear hc0 K1 D1 hk hyes hb'
    simp only at HD HK ⊢
    by_cases he : e1 = 0
    · subst he
      have hF := hide (find_disk R S1 G a w1 HD.out ha)
      go_wp2_with fail
      refine hF.out.mono ?_
      rintro e w2 ⟨rfl, b2⟩
      have HD2 := hide (HD.out.below b2)
      have KK2 := hide (KK.out.trans (Kept.of_below b2))
      clear b2 hF KK HD
      cases hf : fileAt S1.files (lk S1.names a) with
      | none =>
        have HC2 := hide (show rmvS S a = (11, S1) by rw [HC.out, hf]; rfl)
        simp only [ptrOf]
        go_wp2
        go_ret
        exact ⟨by rw [HC2.out]; rfl, by rw [HC2.out]; exact ⟨G, HD2.out, KK2.out⟩⟩
      | some f =>
        simp only [ptrOf]
        have HC2 := hide (show rmvS S a = (0, { S1 with names := doS S1.names ⟨2, a, ⟨#[]⟩, 0⟩, since := S1.since ++ [⟨2, a, ⟨#[]⟩, 0⟩] }) by rw [HC.out, hf]; simp)
        have hcl : S1.calls ≤ 1099511627776 := by have := HK.out.1; omega
        have CH : Calls Tryz.prog 45 #[.pointer (some ⟨R, 0, none⟩), .agg #[.int .i64 2, .string a, .string ⟨#[]⟩, .int .i64 0]] w2 _ :=
          change_any R _ G ⟨2, a, ⟨#[]⟩, 0⟩ w2 HD2.out hcl (okName_le hy).2 (Nat.zero_le _) (by show 2 ≤ 2; omega) (Nat.zero_le _) (ok_change HK.out H.out.ok HD2.out.ok (okName_le hy).2 (Nat.zero_le _) (.inr rfl) (Nat.zero_le _) (size_do (HD2.out.nm.tidy lawS) _))
        have HCH := hide CH
        clear CH
        go_wp2_with fail
        refine HCH.out.mono ?_
        rintro e w3 ⟨rfl, G3, D3, K3⟩
        have HD3 := hide D3
        have HK3 := hide (KK2.out.trans K3)
        clear D3 K3
        go_wp2
        go_ret
        exact ⟨by rw [HC2.out]; rfl, by rw [HC2.out]; exact ⟨G3, HD3.out, HK3.out⟩⟩
    · have HC2 := hide (show rmvS S a = (e1, S1) by rw [HC.out, if_pos he])
      have hne : ¬ ((e1 : Int) = 0) := by omega
      go_wp2
      go_ret
      exact ⟨by rw [HC2.out]; rfl, by rw [HC2.out]; exact ⟨G, HD.out, KK.out⟩⟩

theorem remove_h {F : Nat → Prop} {R : Nat} {S : St} {w : World} (a : ByteArray) {E : Nat} {S' : St} (e : rmvS S a = (E, S')) (h : Held F w R S) (hm : S.calls < 1099511627776) (ha : a.size ≤ 70368744177664) :
    Calls Tryz.prog 25 #[.pointer (some ⟨R, 0, none⟩), .string a] w fun e w' => e = .returned (.int .i64 E) ∧ Held F w' R S' ∧ Same F w w' := by
  obtain ⟨G, D, hF⟩ := h
  refine (remove_any R S G a w D hm ha).mono ?_
  rw [e]
  rintro e w' ⟨rfl, G', D', K⟩
  exact ⟨rfl, Held.keep hF D' K⟩

end Go.Proofs.YtfogfpanfhmijaaGreat.Clep
