/- What Bytes of the statements, and Rename of a Disk, do when called (walks over the translated program): for lengths of at most 2^40, numbers of at most 2^60, any Disk of fewer than 2^40 calls, names of at most 2^46 bytes. -/
import Derived.Test.YthmfkfiblaamfabDAwake
namespace Go.Proofs.Ythmfkfiblaamfab.Clep
open Go.RowKit Go.Maps
set_option linter.unusedVariables false

def byt (n : Int) (L : Nat) : List Int := (List.range L).map fun i : Nat => (n + 3 * (i : Int)) % 256
theorem byt_len (n : Int) (L : Nat) : (byt n L).length = L := by simp [byt]
theorem byt_range (n : Int) (L : Nat) : ∀ z ∈ byt n L, 0 ≤ z ∧ z < 256 := by
  intro z hz
  obtain ⟨i, _, rfl⟩ := List.mem_map.1 hz
  omega
theorem byt_succ (n : Int) (k : Nat) : byt n (k + 1) = byt n k ++ [(n + 3 * (k : Int)) % 256] := by
  unfold byt
  rw [List.range_succ, List.map_append]
  rfl
theorem zerosN (L : Nat) : (madeCells #[Value.int IntKind.u8 0] L).toList = bv (List.replicate L 0) := by
  unfold madeCells bv
  rw [Array.toList_map, List.map_replicate]
  refine List.ext_getElem (by simp) fun i h1 h2 => ?_
  simp
  rw [Nat.mod_one]
  rfl
theorem set_byt (n : Int) (L k : Nat) (h : k < L) : (bv (byt n k ++ List.replicate (L - k) 0)).set k (.int .u8 ((n + 3 * (k : Int)) % 256)) = bv (byt n (k + 1) ++ List.replicate (L - (k + 1)) 0) := by
  rw [byt_succ, show L - k = (L - (k + 1)) + 1 from by omega, List.replicate_succ]
  unfold bv
  rw [List.map_append, List.map_append, List.map_cons, List.map_append, List.set_append, if_neg (by simp [byt_len])]
  simp [byt_len]

set_option maxHeartbeats 400000 in
theorem bytes_any (n : Int) (L : Nat) (w : World) (hL : L ≤ 1099511627776) (hn : -1152921504606846976 ≤ n ∧ n ≤ 1152921504606846976) :
    Calls Try.prog 11 #[.int .i64 n, .int .i64 L] w fun e w' => e = .returned (.string (strOfNums (byt n L))) ∧ Below w.heap.size w w' := by
  obtain ⟨i0, hi, hz0, hz1, hz2⟩ := info_parts info5
  go_enter Try.func11, Try.ntmps11
  go_wp2_with (first
    | (at_make; refine wpList_make_full _ rfl _ _ 31 rfl w.heap.size 5 i0 (.int .u8 0) 1 Try.underlying31 hi hz0 hz1 .i64 .i64 _ _ L rfl rfl rfl rfl ?c1 ?c2 ?c3 ?_)
    | fail)
  case c1 => rw [hz2]; omega
  case c2 => unfold maxLen; omega
  case c3 => exact Nat.le_refl _
  intro w1 hown hg
  rw [zerosN] at hown
  have HB := hide ((Below.refl _ w).grown hg (Nat.le_refl _) (fun k hk => by cases hk))
  have HO := hide hown
  clear hown hg
  go_wp2_with fail
  go_loopw [11] (fun i wr => ∃ k : Nat, k ≤ L ∧ i = .int .i64 k ∧ Hid (wr.ownsRow w.heap.size 5 1 (.slice (some ⟨w.heap.size, 0, none⟩) L L) L (bv (byt n k ++ List.replicate (L - k) 0))) ∧ Hid (Below w.heap.size w wr)) (fun i _ => L - (intOf i).toNat)
  case atStart => exact ⟨0, by omega, rfl, hide (by simpa [byt] using HO.out), HB⟩
  case round =>
    obtain ⟨k, hk, rfl, hown, hbel⟩ := hrel
    by_cases hlt : k < L
    · have hcl : ∃ v, wr.cell? ⟨w.heap.size, k, none⟩ = some v := by
        rw [hown.out.cellAt k (by omega)]
        exact ⟨_, List.getElem?_eq_getElem (by rw [bv_len]; simp [byt_len]; omega)⟩
      obtain ⟨v0, hcl⟩ := hcl
      have hfr := hown.out.frozenAt k
      have HS := hide (hown.out.stored k (.int .u8 ((n + 3 * (k : Int)) % 256)))
      have HE := hide (set_byt n L k hlt)
      go_wp2
      go_roundw
      case rel => exact ⟨k + 1, by omega, by go_num, hide (by have := HS.out.1; rw [HE.out] at this; exact this), hide (hbel.out.grown HS.out.2 hbel.out.size (fun j hj => by cases hj; exact Nat.le_refl _))⟩
      case measure => simp [intOf]; omega
    · have h8 : k = L := by omega
      subst h8
      have hO : Own wr w.heap.size (.slice (some ⟨w.heap.size, 0, none⟩) k k) (byt n k) := by
        unfold Own; rw [byt_len]; simpa using hown.out
      obtain ⟨ao, cap, hv, hcv⟩ := own_conv hO (byt_range n k) k (byt_len n k)
      cases hv
      have hc := hcv.out _ (Below.refl _ _)
      clear hO hcv
      go_wp2
      go_ret
      exact ⟨rfl, hbel.out⟩

def renS (S : St) (a b : ByteArray) : Nat × St :=
  if okName a = false ∨ okName b = false then (10, S)
  else if (beginS S).1 ≠ 0 then beginS S
  else if (fileAt (beginS S).2.files (lk (beginS S).2.names a)).isNone then (11, (beginS S).2)
  else if a = b then (0, (beginS S).2)
  else (0, { (beginS S).2 with names := doS (beginS S).2.names ⟨1, a, b, 0⟩, since := (beginS S).2.since ++ [⟨1, a, b, 0⟩] })

theorem txts_two (w : World) (a b : ByteArray) : Txts (w.alloc (.cells #[.string a, .string b] 9)) (some ⟨w.heap.size, 0, none⟩) [a, b] := by
  intro i hi
  have hi' : i = 0 ∨ i = 1 := by simp at hi; omega
  rcases hi' with rfl | rfl
  · exact ⟨_, _, rfl, cell_of (MapKept.heap_alloc w _).1 (by simp)⟩
  · exact ⟨_, _, rfl, cell_of (MapKept.heap_alloc w _).1 (by simp)⟩
theorem ok_change {S S1 : St} {c : Ch} (hS : S1.calls = S.calls + 1 ∧ S1.made = S.made ∧ S1.files = S.files ∧ S1.names = S.names ∧ S1.lasting = S.lasting ∧ S1.since = S.since ∧ S1.q = S.q) (h : Ok S) (h1 : Ok S1) (hs : c.name.size ≤ 16) (ht : c.to.size ≤ 16) (hk : c.kind = 1 ∨ c.kind = 2) (hf : c.file ≤ S1.made) (hz : Maps.size (doS S1.names c) ≤ Maps.size S1.names + 1) : Ok { S1 with names := doS S1.names c, since := S1.since ++ [c] } := by
  obtain ⟨c1, c2, c3, c4, c5, c6, c7⟩ := hS
  obtain ⟨a1, a2, a3, a4, a5, a6, a7, a8, a9, a10, a11⟩ := h1
  have b6 := h.szn
  have b7 := h.szl
  rw [← c4] at b6
  rw [← c5, ← c6] at b7
  refine ⟨a1, a2, leads_do a3 (fun h0 => by omega), a4, ?_, ?_, ?_, a8, a9, a10, a11⟩
  · intro c' hc
    rcases List.mem_append.1 hc with hc | hc
    · exact a5 c' hc
    · rw [List.mem_singleton] at hc
      subst hc
      exact ⟨by omega, hs, ht, fun h0 => by omega, hf⟩
  · show Maps.size (doS S1.names c) ≤ S1.calls
    omega
  · show Maps.size S1.lasting + (S1.since ++ [c]).length ≤ S1.calls
    rw [List.length_append]
    simp
    omega
theorem size_do {D : DataW Unit} (hT : Tidy D) (c : Ch) : Maps.size (doS D c) ≤ Maps.size D + 1 := by
  unfold doS
  split
  · have hs := Maps.size_put hT (k := key c.name) (i64L c.file)
    split at hs <;> omega
  · split
    · split
      · have hs := Maps.size_put (hT.del (key c.name)) (k := key c.to) (i64L (lk D c.name))
        have hs2 := Maps.size_del hT (k := key c.name)
        split at hs <;> split at hs2 <;> omega
      · omega
    · split
      · have hs2 := Maps.size_del hT (k := key c.name)
        split at hs2 <;> omega
      · omega
set_option maxHeartbeats 400000 in
set_option maxRecDepth 4000 in
theorem rename_any (R : Nat) (S : St) (G : Gh) (a b : ByteArray) (w : World) (h : DiskIs w R S G) (hm : S.calls < 1099511627776) (ha : a.size ≤ 70368744177664) (hb : b.size ≤ 70368744177664) :
    Calls Try.prog 23 #[.pointer (some ⟨R, 0, none⟩), .string a, .string b] w fun e w' => e = .returned (.int .i64 (renS S a b).1) ∧ ∃ G', DiskIs w' R (renS S a b).2 G' ∧ Kept G G' w w' := by
  have H := hide h
  have BA := (Below.refl w.heap.size w).alloc (Nat.le_refl _) (.cells #[.string a, .string b] 9)
  have BG := hide (begin_any R S G (some ⟨w.heap.size, 0, none⟩) [a, b] _ (h.below BA) (by omega) (by simp) (txts_two w a b) (by intro s hs; simp at hs; rcases hs with rfl | rfl <;> assumption))
  have HA := hide BA
  clear h BA
  go_enter Try.func23, Try.ntmps23
  go_wp2_with fail
  refine BG.out.mono ?_
  clear BG
  generalize w.alloc (.cells #[.string a, .string b] 9) = wA at *
  rintro e w1 (⟨hno, rfl, rfl⟩ | ⟨hyes, rfl, D1, K1⟩)
  · have hc : renS S a b = (10, S) := by
      unfold renS; rw [if_pos]
      simp only [List.all_cons, List.all_nil, Bool.and_true, Bool.and_eq_false_iff] at hno
      exact hno
    have HC := hide hc
    clear hc
    go_wp2
    go_ret
    exact ⟨by rw [HC.out]; rfl, by rw [HC.out]; exact ⟨G, H.out.below HA.out, Kept.of_below HA.out⟩⟩
  · have hk := begin_keeps S
    have hy : okName a = true ∧ okName b = true := by simpa using hyes
    obtain ⟨e1, S1, hb'⟩ : ∃ e1 S1, beginS S = (e1, S1) := ⟨_, _, rfl⟩
    have hc0 : renS S a b = if e1 ≠ 0 then (e1, S1) else if (fileAt S1.files (lk S1.names a)).isNone then (11, S1) else if a = b then (0, S1) else (0, { S1 with names := doS S1.names ⟨1, a, b, 0⟩, since := S1.since ++ [⟨1, a, b, 0⟩] }) := by
      unfold renS; rw [if_neg (by rw [hy.1, hy.2]; simp), hb']
    have HC := hide hc0
    have KK := hide ((Kept.of_below (G := G) HA.out).trans K1)
    rw [hb'] at D1 hk ⊢
    have HD := hide D1
    have HK := hide hk
    clear hc0 K1 D1 hk hyes hb'
    simp only at HD HK ⊢
    by_cases he : e1 = 0
    · subst he
      have hF := hide (find_disk R S1 G a w1 HD.out ha)
      go_wp2_with fail
      refine hF.out.mono ?_
      rintro e w2 ⟨rfl, b2⟩
      have HD2 := hide (HD.out.below b2)
      have KK2 := hide (KK.out.trans (Kept.of_below b2))
      clear b2 hF KK HD
      cases hf : fileAt S1.files (lk S1.names a) with
      | none =>
        have HC2 := hide (show renS S a b = (11, S1) by rw [HC.out, hf]; rfl)
        simp only [ptrOf]
        go_wp2
        go_ret
        exact ⟨by rw [HC2.out]; rfl, by rw [HC2.out]; exact ⟨G, HD2.out, KK2.out⟩⟩
      | some f =>
        simp only [ptrOf]
        by_cases hab : a = b
        · subst hab
          have HC2 := hide (show renS S a a = (0, S1) by rw [HC.out, hf]; simp)
          go_wp2
          go_ret
          exact ⟨by rw [HC2.out]; rfl, by rw [HC2.out]; exact ⟨G, HD2.out, KK2.out⟩⟩
        · have HC2 := hide (show renS S a b = (0, { S1 with names := doS S1.names ⟨1, a, b, 0⟩, since := S1.since ++ [⟨1, a, b, 0⟩] }) by rw [HC.out, hf, if_neg hab]; simp)
          have hcl : S1.calls ≤ 1099511627776 := by have := HK.out.1; omega
          have CH : Calls Try.prog 27 #[.pointer (some ⟨R, 0, none⟩), .agg #[.int .i64 1, .string a, .string b, .int .i64 0]] w2 _ :=
            change_any R _ G ⟨1, a, b, 0⟩ w2 HD2.out hcl (okName_le hy.1).2 (okName_le hy.2).2 (by show 1 ≤ 2; omega) (Nat.zero_le _) (ok_change HK.out H.out.ok HD2.out.ok (okName_le hy.1).2 (okName_le hy.2).2 (.inl rfl) (Nat.zero_le _) (size_do (HD2.out.nm.tidy lawS) _))
          have HCH := hide CH
          have hne2 : (a.toList == b.toList) = false := by
            rw [Bool.eq_false_iff]
            intro e
            apply hab
            have := eq_of_beq e
            rw [ByteArray.toList_eq, ByteArray.toList_eq] at this
            cases a; cases b
            congr
            exact Array.toList_inj.1 this
          clear CH
          go_wp2_with fail
          refine HCH.out.mono ?_
          rintro e w3 ⟨rfl, G3, D3, K3⟩
          have HD3 := hide D3
          have HK3 := hide (KK2.out.trans K3)
          clear D3 K3
          go_wp2
          go_ret
          exact ⟨by rw [HC2.out]; rfl, by rw [HC2.out]; exact ⟨G3, HD3.out, HK3.out⟩⟩
    · have HC2 := hide (show renS S a b = (e1, S1) by rw [HC.out, if_pos he])
      have hne : ¬ ((e1 : Int) = 0) := by omega
      go_wp2
      go_ret
      exact ⟨by rw [HC2.out]; rfl, by rw [HC2.out]; exact ⟨G, HD.out, KK.out⟩⟩

theorem rename_h {F : Nat → Prop} {R : Nat} {S : St} {w : World} (a b : ByteArray) {E : Nat} {S' : St} (e : renS S a b = (E, S')) (h : Held F w R S) (hm : S.calls < 1099511627776) (ha : a.size ≤ 70368744177664) (hb : b.size ≤ 70368744177664) :
    Calls Try.prog 23 #[.pointer (some ⟨R, 0, none⟩), .string a, .string b] w fun e w' => e = .returned (.int .i64 E) ∧ Held F w' R S' ∧ Same F w w' := by
  obtain ⟨G, D, hF⟩ := h
  refine (rename_any R S G a b w D hm ha hb).mono ?_
  rw [e]
  rintro e w' ⟨rfl, G', D', K⟩
  exact ⟨rfl, Held.keep hF D' K⟩
theorem num_of_row {w : World} {a : Option Addr} {len cap : Nat} {zs : List Int}
    (h : (a = none ∧ len = 0 ∧ cap = 0 ∧ zs = []) ∨ ∃ x, a = some x ∧ len ≤ cap ∧ cap ≤ maxLen ∧ zs.length = cap ∧ (∀ i, i < zs.length → w.cell? (x.add i) = some (.int .i64 (zs.getD i 0))) ∧ ∀ z ∈ zs, (Lit.int .i64 z).wf = true) :
    NumV (· < w.heap.size) w (.slice a len cap) (zs.take len) ∧ (zs.take len).length = len := by
  rcases h with ⟨rfl, rfl, rfl, rfl⟩ | ⟨x, rfl, hl, hm, hz, hcell, hwz⟩
  · exact ⟨⟨none, 0, rfl, Nat.le_refl _, by omega, by simp, fun h => by simp at h⟩, rfl⟩
  · have hlen : (zs.take len).length = len := by rw [List.length_take]; omega
    unfold maxLen at hm
    refine ⟨⟨some x, cap, by rw [hlen], by rw [hlen]; exact hl, hm, fun k hk => hwz k (List.mem_of_mem_take hk), fun h0 => ?_⟩, hlen⟩
    rw [hlen] at h0
    obtain ⟨b, off, spot⟩ := x
    have hc := hcell 0 (by omega)
    have hspot : spot = none := by simpa [Addr.add] using World.cell?_spot hc
    subst hspot
    refine ⟨b, off, rfl, ?_, fun i hi => ?_⟩
    · have := World.block_lt_of_cell? w _ hc
      rw [add_plain] at this
      exact this
    · rw [hlen] at hi
      have := hcell i (by omega)
      rw [add_plain] at this
      rw [this]
      simp [List.getD, hi]

end Go.Proofs.Ythmfkfiblaamfab.Clep
