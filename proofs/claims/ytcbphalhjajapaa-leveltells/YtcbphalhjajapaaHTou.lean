/- What look.touching, with the function that it hands to slices.ContainsFunc, and look.down do when called (walks over the translated program). Conditions: at most 1,000 files. -/
import Derived.Test.YtcbphalhjajapaaHDone
namespace Go.Proofs.Ytcbphalhjajapaa.Clep
open Go.RowKit
set_option linter.unusedVariables false
set_option linter.unusedSimpArgs false

/-- What the function that touching hands over leans on. -/
structure Tf (w : World) (bl ba b i : Nat) (a : Option Addr) (n c : Nat) (l : List He) : Prop where
  cl : w.cell? ⟨bl, 0, none⟩ = some (.pointer (some ⟨b, 0, none⟩))
  ci : w.cell? ⟨ba, 0, none⟩ = some (.int .i64 (i : Int))
  cf : w.cell? ⟨b, 0, none⟩ = some (.slice a n c)
  hs : Hs w a n c l
  lt : i < n
theorem Tf.keep {w w' : World} {bl ba b i : Nat} {a : Option Addr} {n c : Nat} {l : List He} (h : Tf w bl ba b i a n c l) (hb : Below w.heap.size w w') : Tf w' bl ba b i a n c l :=
  ⟨(hb.cell (p := ⟨bl, 0, none⟩) (World.block_lt_of_cell? w _ h.cl)).trans h.cl, (hb.cell (p := ⟨ba, 0, none⟩) (World.block_lt_of_cell? w _ h.ci)).trans h.ci, (hb.cell (p := ⟨b, 0, none⟩) (World.block_lt_of_cell? w _ h.cf)).trans h.cf, h.hs.below hb (Nat.le_refl _), h.lt⟩
theorem tchAt_of {l : List He} {i j : Nat} {x y : He} (hx : l[i]? = some x) (hy : l[j]? = some y) : tchAt l i j = tch x y := by unfold tchAt; rw [hx, hy]
set_option maxRecDepth 100000 in
set_option maxHeartbeats 1000000 in
theorem tou1_any (bl ba b i j : Nat) (a : Option Addr) (n c : Nat) (l : List He) (w : World) (h : Tf w bl ba b i a n c l) (hj : j < n) :
    Calls Try.prog 31 #[.int .i64 (j : Int), .pointer (some ⟨bl, 0, none⟩), .pointer (some ⟨ba, 0, none⟩)] w fun e w' => e = .returned (.bool (tchAt l i j)) ∧ Below w.heap.size w w' := by
  obtain ⟨x, xb, xo, hx, rfl, hokx, x0, x1, x2, x3, x4⟩ := hs_at h.hs i h.lt
  obtain ⟨y, yb, yo, hy, e9, hoky, y0, y1, y2, y3, y4⟩ := hs_at h.hs j hj
  injection e9 with e9
  injection e9 with e9 e8
  subst e9 e8
  have HT := tchAt_of hx hy
  rw [HT]
  have cT : Hid (∀ p : Kp w, Calls Try.prog 13 #[x.v, y.v] p.W fun e w'' => e = .returned (.bool (tch x y)) ∧ ∃ q : Kp w, w'' = q.W) := hide fun p => kp_call (touch_any x y p.W (hokx.below p.h (Nat.le_refl _)) (hoky.below p.h (Nat.le_refl _)))
  have cc : ∀ {q : Addr} {u : Value}, w.cell? q = some u → ∀ p : Kp w, p.W.cell? q = some u := fun {q u} hq p => (p.h.cell (World.block_lt_of_cell? w _ hq)).trans hq
  have p0 := cc h.cl
  have p1 := cc h.ci
  have p2 := cc h.cf
  have px0 := cc x0
  have px1 := cc x1
  have px2 := cc x2
  have px3 := cc x3
  have px4 := cc x4
  have py0 := cc y0
  have py1 := cc y1
  have py2 := cc y2
  have py3 := cc y3
  have py4 := cc y4
  have hi := h.lt
  have hqi : (i : Int) < (n : Int) := by omega
  have hqj : (j : Int) < (n : Int) := by omega
  have hne : Nonempty (Kp w) := ⟨⟨w, Below.refl _ _⟩⟩
  unfold He.v at cT
  generalize tch x y = T at *
  clear cc h hokx hoky hx hy HT x0 x1 x2 x3 x4 y0 y1 y2 y3 y4
  go_enter Try.func31, Try.ntmps31
  go_wp2_with fail
  refine wp_region_kept (by kernel_rfl) (by kernel_rfl) ?_
  repeat (first | go_big_quiet_step (first | (go_at_call 13; exact cT.out _)) | fail)
  refine wpQuiet_nil ?_
  intro w3 hw'
  have HB : Hid (Below w.heap.size w w3) := by
    obtain ⟨⟨w3', hb3⟩, hw''⟩ := hw'
    rw [hw'']; exact hide hb3
  clear hw' hne cT p0 p1 p2 px0 px1 px2 px3 px4 py0 py1 py2 py3 py4
  go_wp2
  go_ret
  exact ⟨rfl, HB.out⟩
theorem any_take (p : Nat → Bool) (ps : List Nat) (k : Nat) (hk : k < ps.length) (h : (ps.take k).any p = false) (hx : p ps[k] = true) : ps.any p = true := by
  rw [List.any_eq_true]
  exact ⟨ps[k], List.getElem_mem hk, hx⟩
set_option maxRecDepth 100000 in
set_option maxHeartbeats 1000000 in
theorem idxf_any (bl ba b i : Nat) (a : Option Addr) (n c : Nat) (l : List He) (ta : Option Addr) (N tc : Nat) (tp : List Nat) (w : World) (h : Tf w bl ba b i a n c l) (ht : Zs w ta N tc (zn tp)) (hn : ∀ j ∈ tp, j < n) (hNb : N ≤ 1000000) :
    Calls Try.prog 41 #[.slice ta N tc, .func (.func 31) #[] #[.pointer (some ⟨bl, 0, none⟩), .pointer (some ⟨ba, 0, none⟩)]] w
      fun e w' => ∃ r : Int, e = .returned (.int .i64 r) ∧ decide (r ≥ 0) = tp.any (tchAt l i) ∧ Below w.heap.size w w' := by
  have hN : tp.length = N := by have := ht.1; rwa [zn_len] at this
  have HZ := hide (fun W (hW : Below w.heap.size w W) => ht.below hW (Nat.le_refl _))
  have HC := hide (fun (j : Nat) (W : World) (hj : j < n) (hW : Below w.heap.size w W) => tou1_any bl ba b i j a n c l W (h.keep hW) hj)
  have HN := hide hN
  have HJ := hide hn
  clear h ht hN hn
  go_enter Try.func41, Try.ntmps41
  go_wp2_with fail
  go_loopw [8] (fun t wr => ∃ k : Nat, k ≤ N ∧ t = .int .i64 k ∧ Hid ((tp.take k).any (tchAt l i) = false ∧ Below w.heap.size w wr)) (fun t _ => N - (intOf t).toNat)
  case atStart => exact ⟨0, by omega, rfl, hide ⟨by simp, Below.refl _ _⟩⟩
  case round =>
    obtain ⟨k, hk, rfl, hst⟩ := hrel
    by_cases hlt : k < N
    · obtain ⟨z, zb, zo, hz, rfl, hzc, _, _⟩ := zs_at (HZ.out _ hst.out.2) k hlt
      have hkl : k < tp.length := by rw [HN.out]; exact hlt
      obtain ⟨p, hp⟩ : ∃ p, tp[k] = p := ⟨_, rfl⟩
      have hzp : z = (p : Int) := by
        have : (zn tp)[k]? = some (p : Int) := by simp [zn, hkl, hp]
        rw [this] at hz
        exact (Option.some.inj hz).symm
      subst hzp
      have hpn := HJ.out p (by rw [← hp]; exact List.getElem_mem hkl)
      have HCC := hide (HC.out p _ hpn hst.out.2)
      have HP := hide hp
      have hqk : (k : Int) < (N : Int) := by omega
      clear hz hp
      go_wp2_with fail
      refine HCC.out.mono ?_
      rintro e w2 ⟨rfl, hb⟩
      have HB := hide (hst.out.2.trans (hb.mono hst.out.2.size))
      have HNO := hide hst.out.1
      clear hst HCC hb hzc
      cases ht : tchAt l i p with
      | true =>
        have HY := hide (any_take (tchAt l i) tp k hkl HNO.out (by rw [HP.out]; exact ht))
        clear ht
        go_wp2
        go_ret
        exact ⟨(k : Int), rfl, by rw [HY.out]; exact decide_eq_true (by omega), HB.out⟩
      | false =>
        have HY := hide (show (tp.take (k + 1)).any (tchAt l i) = false from by rw [List.take_add_one, List.getElem?_eq_getElem hkl, HP.out, List.any_append, HNO.out]; simp [ht])
        clear ht
        go_wp2
        go_roundw
        case rel => exact ⟨k + 1, by omega, by go_num, hide ⟨HY.out, HB.out⟩⟩
        case measure => simp [intOf]; omega
    · obtain rfl : k = N := by omega
      have hqk : ¬ ((k : Int) < (k : Int)) := by omega
      have hfull : tp.take k = tp := List.take_of_length_le (by rw [HN.out]; exact Nat.le_refl _)
      have HR := hide (show tp.any (tchAt l i) = false ∧ Below w.heap.size w _ from ⟨by rw [← hfull]; exact hst.out.1, hst.out.2⟩)
      clear hst hfull
      go_wp2
      go_ret
      exact ⟨-1, rfl, by rw [HR.out.1]; rfl, HR.out.2⟩
theorem contf_any (bl ba b i : Nat) (a : Option Addr) (n c : Nat) (l : List He) (ta : Option Addr) (N tc : Nat) (tp : List Nat) (w : World) (h : Tf w bl ba b i a n c l) (ht : Zs w ta N tc (zn tp)) (hn : ∀ j ∈ tp, j < n) (hNb : N ≤ 1000000) :
    Calls Try.prog 32 #[.slice ta N tc, .func (.func 31) #[] #[.pointer (some ⟨bl, 0, none⟩), .pointer (some ⟨ba, 0, none⟩)]] w
      fun e w' => e = .returned (.bool (tp.any (tchAt l i))) ∧ Below w.heap.size w w' := by
  have HC := hide (idxf_any bl ba b i a n c l ta N tc tp w h ht hn hNb)
  clear h ht hn
  generalize tp.any (tchAt l i) = R at *
  go_enter Try.func32, Try.ntmps32
  go_wp2_with fail
  refine HC.out.mono ?_
  rintro e w2 ⟨r, rfl, hr, hb⟩
  have HR := hide hr
  have HB := hide hb
  clear hr hb HC
  go_wp2
  go_ret
  exact ⟨by rw [← HR.out]; rfl, HB.out⟩

theorem touP_more (l : List He) (these : List Nat) (ps : List Nat) (i : Nat) (hi : i < ps.length) : touP l these (ps.take (i + 1)) = touP l these (ps.take i) ++ (if these.any (tchAt l ps[i]) = true then [ps[i]] else []) := by
  unfold touP
  rw [List.take_add_one, List.getElem?_eq_getElem hi, List.filter_append]
  congr 1
  show List.filter _ [ps[i]] = _
  by_cases h : these.any (tchAt l ps[i]) = true
  · rw [if_pos h, List.filter_cons_of_pos (by exact h)]; rfl
  · rw [if_neg h, List.filter_cons_of_neg (by exact h)]; rfl
theorem touP_len (l : List He) (these ps : List Nat) : (touP l these ps).length ≤ ps.length := List.length_filter_le _ _
set_option maxRecDepth 100000 in
set_option maxHeartbeats 1000000 in
theorem tou_any (b S : Nat) (a : Option Addr) (n c : Nat) (l : List He) (ps : Nat → Value) (k : Nat) (ta : Option Addr) (tn tc : Nat) (tp : List Nat) (w : World) (hk : k < 4) (h : Lk w b (.slice a n c) l ps) (hs : Hs w a n c l) (hm : n ≤ 1000)
    (ht : Zs w ta tn tc (zn tp)) (htp : ∀ j ∈ tp, j < n) (htn : tn ≤ 1000000) :
    Calls Try.prog 23 #[.pointer (some ⟨b, 0, none⟩), .int .i64 (k : Int), .slice ta tn tc] w fun e w' => ∃ v, e = .returned v ∧ OwnZ w' w.heap.size v (zn (touP l tp (pos l k))) ∧ Below w.heap.size w w' := by
  have A1 := (Below.refl w.heap.size w).alloc (Nat.le_refl _) (Obj.cells #[.pointer (some ⟨b, 0, none⟩)] 69)
  have e1 := ek_new w #[.pointer (some ⟨b, 0, none⟩)] 69
  have hsz : (w.alloc (Obj.cells #[.pointer (some ⟨b, 0, none⟩)] 69)).heap.size = w.heap.size + 1 := by simp
  obtain ⟨N, hN⟩ : ∃ N, (pos l k).length = N := ⟨_, rfl⟩
  obtain ⟨ao, cap, hps, hcap, hzs⟩ := h.z k hk
  rw [hN] at hps hzs
  have HD := hide (on_done b _ l ps k _ hk (h.keep A1))
  rw [hps] at HD
  have hNle : N ≤ 1000 := by
    have := posN_len l k l.length
    have := hs.1
    unfold pos at hN
    omega
  have HZ := hide (fun W (hW : Below w.heap.size w W) => hzs.below hW (Nat.le_refl _))
  have HT := hide (fun W (hW : Below w.heap.size w W) => ht.below hW (Nat.le_refl _))
  have HS := hide (fun W (hW : Below w.heap.size w W) => hs.below hW (Nat.le_refl _))
  have HBC := hide (show ∀ W, Below w.heap.size w W → W.cell? ⟨b, 0, none⟩ = some (.slice a n c) from fun W hW => (h.e.below hW h.e.lt).cell (o := 0) rfl)
  have HP := hide (show ∀ p ∈ pos l k, p < n from fun p hp => by have := pos_lt hp; rw [hs.1] at this; exact this)
  have HA := hide A1
  have HE := hide e1
  have HSZ := hide hsz
  have HN := hide hN
  have HTP := hide htp
  clear h hs ht htp A1 e1 hsz hN hzs hps
  go_enter Try.func23, Try.ntmps23
  go_wp2_with fail
  generalize w.alloc (Obj.cells #[.pointer (some ⟨b, 0, none⟩)] 69) = wa at *
  refine HD.out.mono ?_
  rintro e w1 ⟨rfl, hb1⟩
  have ST := hide (show Below w.heap.size w w1 ∧ Ek w1 w.heap.size #[.pointer (some ⟨b, 0, none⟩)] 69 ∧ w.heap.size + 1 ≤ w1.heap.size from ⟨HA.out.trans (hb1.mono HA.out.size), HE.out.below hb1 HE.out.lt, by have := hb1.size; have := HSZ.out; omega⟩)
  clear hb1 HD HA HE HSZ
  go_wp2_with fail
  go_loopw [7, 15] (fun v t wr => ∃ i : Nat, i ≤ N ∧ t = .int .i64 i ∧ Hid (Below w.heap.size w wr ∧ Ek wr w.heap.size #[.pointer (some ⟨b, 0, none⟩)] 69 ∧ w.heap.size + 1 ≤ wr.heap.size ∧ OwnZ wr (w.heap.size + 1) v (zn (touP l tp ((pos l k).take i))))) (fun _ t _ => N - (intOf t).toNat)
  case atStart => exact ⟨0, by omega, rfl, hide ⟨ST.out.1, ST.out.2.1, ST.out.2.2, ownZ_nil _ _⟩⟩
  case round =>
    obtain ⟨i, hi, rfl, hst⟩ := hrel
    by_cases hlt : i < N
    · obtain ⟨z, zb, zo, hz, rfl, hzc, _, _⟩ := zs_at (HZ.out _ hst.out.1) i hlt
      have hil : i < (pos l k).length := by rw [HN.out]; exact hlt
      obtain ⟨p, hp⟩ : ∃ p, (pos l k)[i] = p := ⟨_, rfl⟩
      have hzp : z = (p : Int) := by
        have : (zn (pos l k))[i]? = some (p : Int) := by simp [zn, hil, hp]
        rw [this] at hz
        exact (Option.some.inj hz).symm
      subst hzp
      have hpn := HP.out p (by rw [← hp]; exact List.getElem_mem hil)
      have HPM := touP_more l tp (pos l k) i hil
      rw [hp] at HPM
      have HPM := hide HPM
      have A3 := (Below.refl _ wr).alloc (Nat.le_refl _) (Obj.cells #[.int .i64 (p : Int)] 3)
      have hB3 := hst.out.1.trans (A3.mono hst.out.1.size)
      have e3 := ek_new wr #[.int .i64 (p : Int)] 3
      have HC := hide (contf_any w.heap.size wr.heap.size b p a n c l ta tn tc tp _ ⟨(hst.out.2.1.below A3 hst.out.2.1.lt).cell rfl, e3.cell rfl, HBC.out _ hB3, HS.out _ hB3, hpn⟩ (HT.out _ hB3) HTP.out htn)
      have hqi : (i : Int) < (N : Int) := by omega
      have hqp : (p : Int) < (n : Int) := by omega
      have ST3 := hide (show Below w.heap.size w (wr.alloc (Obj.cells #[.int .i64 (p : Int)] 3)) ∧ Ek (wr.alloc (Obj.cells #[.int .i64 (p : Int)] 3)) w.heap.size #[.pointer (some ⟨b, 0, none⟩)] 69 ∧ w.heap.size + 1 ≤ (wr.alloc (Obj.cells #[.int .i64 (p : Int)] 3)).heap.size ∧ OwnZ (wr.alloc (Obj.cells #[.int .i64 (p : Int)] 3)) (w.heap.size + 1) u7 (zn (touP l tp ((pos l k).take i))) from
        ⟨hB3, hst.out.2.1.below A3 hst.out.2.1.lt, Nat.le_trans hst.out.2.2.1 A3.size, xrow_keep hst.out.2.2.2 A3⟩)
      have HE3 := hide e3
      clear hst hz hp A3 hB3 e3
      go_wp2_with fail
      generalize wr.alloc (Obj.cells #[.int .i64 (p : Int)] 3) = w3 at *
      refine HC.out.mono ?_
      rintro e w4 ⟨rfl, hb4⟩
      obtain ⟨t1, t2, t3, t4⟩ := ST3.out
      have ST4 := hide (show Below w.heap.size w w4 ∧ Ek w4 w.heap.size #[.pointer (some ⟨b, 0, none⟩)] 69 ∧ w.heap.size + 1 ≤ w4.heap.size ∧ OwnZ w4 (w.heap.size + 1) u7 (zn (touP l tp ((pos l k).take i))) from ⟨t1.trans (hb4.mono t1.size), t2.below hb4 t2.lt, Nat.le_trans t3 hb4.size, xrow_keep t4 hb4⟩)
      have HE4 := hide (HE3.out.below hb4 HE3.out.lt)
      clear t1 t2 t3 t4 hb4 HC ST3 HE3 hzc
      generalize wr.heap.size = q at *
      cases ht : tp.any (tchAt l p) with
      | false =>
        have HT3 := hide (show touP l tp ((pos l k).take (i + 1)) = touP l tp ((pos l k).take i) from by rw [HPM.out, ht, if_neg (by simp), List.append_nil])
        clear ht HPM
        go_wp2
        go_roundw
        case rel => exact ⟨i + 1, by omega, by go_num, hide ⟨ST4.out.1, ST4.out.2.1, ST4.out.2.2.1, by rw [HT3.out]; exact ST4.out.2.2.2⟩⟩
        case measure => simp [intOf]; omega
      | true =>
        have HT3 := hide (show zn (touP l tp ((pos l k).take (i + 1))) = zn (touP l tp ((pos l k).take i)) ++ [(p : Int)] from by rw [HPM.out, ht, if_pos rfl, zn_app]; rfl)
        have c4 := HE4.out.cell (o := 0) rfl
        have A5 := (Below.refl _ w4).alloc (Nat.le_refl _) (Obj.cells #[.int .i64 (p : Int)] 3)
        obtain ⟨t1, t2, t3, t4⟩ := ST4.out
        have HB5 := hide (t1.trans (A5.mono t1.size))
        have HX5 := hide (t2.below A5 t2.lt)
        have HS5 := hide (Nat.le_trans t3 A5.size)
        have HO5 := hide (xrow_keep t4 A5)
        have HE5 := hide (ek_new w4 #[.int .i64 (p : Int)] 3)
        have HLE := hide (show (zn (touP l tp ((pos l k).take i))).length ≤ 100000 from by
          rw [zn_len]
          have := touP_len l tp ((pos l k).take i)
          rw [List.length_take] at this
          omega)
        clear ht HPM t1 t2 t3 t4 ST4 A5
        go_wp2_with (at_builtin; refine wpList_append_zz rfl _ _ rfl (w.heap.size + 1) _ _ rfl HO5.out w4.heap.size (p : Int) rfl HE5.out HLE.out HS5.out ?_; intro v6 w6 ho6 hg6 hk6 _)
        go_roundw
        case rel => exact ⟨i + 1, by omega, by go_num, hide ⟨HB5.out.grown hg6 HB5.out.size (fun q hq => by have := hk6 q hq; omega), HX5.out.gb hg6 (fun e => by have := hk6 _ e.symm; omega), Nat.le_trans HS5.out hg6.size, by rw [HT3.out]; exact ho6⟩⟩
        case measure => simp [intOf]; omega
    · obtain rfl : i = N := by omega
      have hqi : ¬ ((i : Int) < (i : Int)) := by omega
      have hfull : (pos l k).take i = pos l k := List.take_of_length_le (by rw [HN.out]; exact Nat.le_refl _)
      have HR := hide (show OwnZ _ w.heap.size u7 (zn (touP l tp (pos l k))) ∧ Below w.heap.size w _ from ⟨by have := hst.out.2.2.2; rw [hfull] at this; exact zrow_base this (by omega), hst.out.1⟩)
      clear hst
      go_wp2
      go_ret
      exact ⟨_, rfl, HR.out.1, HR.out.2⟩

end Go.Proofs.Ytcbphalhjajapaa.Clep
