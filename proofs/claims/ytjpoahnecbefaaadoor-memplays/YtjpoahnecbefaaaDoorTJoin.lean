/- What List.join and tower.take do when called: a tower is linked in at a level, or the one that has its place there is told; an item takes the place of another. No conditions but that the List lies in memory. -/
import Derived.Test.YtjpoahnecbefaaaDoorTWalk
namespace Go.Proofs.YtjpoahnecbefaaaDoor.Clep
open Go.RowKit
set_option linter.unusedVariables false

/-- Of the blocks that there were only those of P may have changed. -/
structure Ch (P : Nat → Prop) (w w' : World) : Prop where
  os : w'.os = w.os
  tape : w'.tape = w.tape
  output : w'.output = w.output
  size : w.heap.size ≤ w'.heap.size
  block : ∀ k, k < w.heap.size → ¬ P k → w'.heap[k]? = w.heap[k]?
theorem Ch.of {P : Nat → Prop} {w w' : World} (h : Below w.heap.size w w') : Ch P w w' := ⟨h.os, h.tape, h.output, h.size, fun k hk _ => h.block k hk⟩
theorem Ch.trans {P : Nat → Prop} {w w1 w2 : World} (h : Ch P w w1) (k : Ch P w1 w2) : Ch P w w2 :=
  ⟨k.os.trans h.os, k.tape.trans h.tape, k.output.trans h.output, Nat.le_trans h.size k.size, fun i hi hp => (k.block i (Nat.lt_of_lt_of_le hi h.size) hp).trans (h.block i hi hp)⟩
theorem Ch.mono {P Q : Nat → Prop} {w w' : World} (h : Ch P w w') (hpq : ∀ i, i < w.heap.size → P i → Q i) : Ch Q w w' :=
  ⟨h.os, h.tape, h.output, h.size, fun k hk hq => h.block k hk fun hp => hq (hpq k hk hp)⟩
theorem Ch.set {P : Nat → Prop} (w : World) (a : Addr) (v : Value) (h : P a.block) : Ch P w (w.setCell a v) :=
  ⟨rfl, rfl, rfl, by simp [World.setCell], fun k hk hp => Below.heap_setCell _ _ _ _ fun e => hp (e ▸ h)⟩
theorem Ch.below {P : Nat → Prop} {w w' : World} {B : Nat} (h : Ch P w w') (hB : B ≤ w.heap.size) (hP : ∀ i, P i → B ≤ i) : Below B w w' :=
  ⟨h.os, h.tape, h.output, h.size, fun k hk => h.block k (by omega) fun hp => by have := hP k hp; omega⟩
theorem Blk.ch {P : Nat → Prop} {w w' : World} {b : Nat} {cs : Array Value} {T : TypeId} (h : Blk w b cs T) (hc : Ch P w w') (hp : ¬ P b) : Blk w' b cs T := by
  unfold Blk at *
  rw [hc.block b (Blk.lt h) hp]; exact h

theorem lnk_set (S : Sk) (t j : Nat) (v : Option Nat) : Sk.lnkV { S with nx := up2 S.nx t j v } t = (S.lnkV t).setIfInBounds j (pt v) := by
  refine Array.ext_getElem? fun i => ?_
  unfold Sk.lnkV
  by_cases hi : i < S.m t
  · by_cases hij : i = j
    · subst hij
      simp [hi, up2]
    · rw [Array.getElem?_setIfInBounds_ne (Ne.symm hij)]
      simp [hi, up2, hij]
  · by_cases hij : j = i
    · subst hij
      simp [hi]
    · rw [Array.getElem?_setIfInBounds_ne hij]
      simp [hi]
theorem lnk_other (S : Sk) (t j : Nat) (v : Option Nat) {s : Nat} (h : s ≠ t) : Sk.lnkV { S with nx := up2 S.nx t j v } s = S.lnkV s := by
  unfold Sk.lnkV
  simp [up2, h]
theorem Hp.setLink {w : World} {S : Sk} {ts : List Nat} (h : Hp w S ts) {t j : Nat} (ht : t ∈ ts) (v : Option Nat) (hv : ∀ b, v = some b → b ∈ ts) :
    Hp (w.setCell ⟨S.k t, j, none⟩ (pt v)) { S with nx := up2 S.nx t j v } ts := by
  have hk := (h.tw t ht).lnk
  refine ⟨h.head.other _ _ (h.head.ne hk (by decide)), fun s hs => ⟨(h.tw s hs).tow.other _ _ ((h.tw s hs).tow.ne hk (by decide)), ?_, (h.tw s hs).itm.other _ _ ((h.tw s hs).itm.ne hk (by decide)), (h.tw s hs).hm⟩, h.kk, fun s hs i hi b hb => ?_⟩
  · by_cases hst : s = t
    · subst hst
      rw [lnk_set]
      exact hk.set j (pt v)
    · rw [lnk_other _ _ _ _ hst]
      exact (h.tw s hs).lnk.other _ _ fun e => hst (h.kk s hs t ht e)
  · change up2 S.nx t j v s i = some b at hb
    unfold up2 at hb
    split at hb
    · exact hv b hb
    · exact h.tgt s hs i hi b hb
theorem Hp.setN {w : World} {S : Sk} {ts : List Nat} (h : Hp w S ts) (n : Nat) : Hp (w.setCell ⟨S.L, 1, none⟩ (.int .i64 n)) { S with n := n } ts := by
  refine ⟨h.head.set 1 _, fun s hs => ⟨(h.tw s hs).tow.other _ _ ((h.tw s hs).tow.ne h.head (by decide)), (h.tw s hs).lnk.other _ _ ((h.tw s hs).lnk.ne h.head (by decide)), (h.tw s hs).itm.other _ _ ((h.tw s hs).itm.ne h.head (by decide)), (h.tw s hs).hm⟩, h.kk, h.tgt⟩
theorem Hp.setItem {w : World} {S : Sk} {ts : List Nat} (h : Hp w S ts) {t b : Nat} {x : It} (ht : t ∈ ts) (hb : Blk w b (itV x) 32) : Hp (w.setCell ⟨t, 0, none⟩ (pt (some b))) (S.put t b x) ts := by
  have hk := (h.tw t ht).tow
  refine ⟨h.head.other _ _ (h.head.ne hk (by decide)), fun s hs => ?_, h.kk, h.tgt⟩
  refine ⟨?_, (h.tw s hs).lnk.other _ _ ((h.tw s hs).lnk.ne hk (by decide)), ?_, (h.tw s hs).hm⟩
  · by_cases hst : s = t
    · subst hst
      have := hk.set 0 (pt (some b))
      rw [show (S.put s b x).towV s = (S.towV s).setIfInBounds 0 (pt (some b)) from by simp [Sk.towV, Sk.put, up]]
      exact this
    · rw [show (S.put t b x).towV s = S.towV s from by simp [Sk.towV, Sk.put, up, hst]]
      exact (h.tw s hs).tow.other _ _ hst
  · by_cases hst : s = t
    · subst hst
      rw [show (S.put s b x).i s = b from by simp [Sk.put, up], show (S.put s b x).x s = x from by simp [Sk.put, up]]
      exact hb.other _ _ (hb.ne hk (by decide))
    · rw [show (S.put t b x).i s = S.i s from by simp [Sk.put, up, hst], show (S.put t b x).x s = S.x s from by simp [Sk.put, up, hst]]
      exact (h.tw s hs).itm.other _ _ ((h.tw s hs).itm.ne hk (by decide))

theorem chain_ah (lt : Nat → Bool) {nx : Nat → Nat → Option Nat} {j : Nat} : ∀ {l : List Nat} {a : Nat}, Chain nx j a l → nx (ah lt a l) j = be lt l
  | [], a, h => h
  | b :: r, a, h => by
    unfold ah be
    cases lt b with
    | true => simp only [if_true]; exact chain_ah lt h.2
    | false => rw [if_neg (by simp), if_neg (by simp)]; exact h.1
/-- Is one there that is the Same? -/
def thereIs (Z : Sk) (x : It) (o : Option Nat) : Bool := (o.map fun b => (Z.x b).same x).getD false

section
set_option maxHeartbeats 1600000
/-- What joins: o tells whether one is there that is the Same. -/
theorem join_core (w : World) (Z : Sk) (ts : List Nat) (t j : Nat) (A : Int) (h : Hp w Z ts) (hp : Pu Z) (hts : ∀ s ∈ Z.f :: Z.l, s ∈ ts) (ht : t ∈ ts) (hj : j < Z.m t) (hA : A = j + 1) (o : Option Nat)
    (ho : be (Z.lt (Z.x t)) (Z.lev j) = o) (d : Bool) (hd : thereIs Z (Z.x t) o = d) :
    Calls Tryd.prog 42 #[.pointer (some ⟨Z.L, 0, none⟩), .pointer (some ⟨t, 0, none⟩), .int .i64 A] w fun e w' =>
      (d = true → e = .returned (pt o) ∧ Below w.heap.size w w') ∧ (d = false → e = .returned (pt (some t)) ∧
        Hp w' { Z with nx := up2 (up2 Z.nx t j o) (ah (Z.lt (Z.x t)) Z.f (Z.lev j)) j (some t) } ts ∧ Ch (fun b => b = Z.k t ∨ b = Z.k (ah (Z.lt (Z.x t)) Z.f (Z.lev j))) w w') := by
  have hm6 := (h.tw t ht).hm
  have hin : ∀ s ∈ Z.lev j, s ∈ ts ∧ j < Z.m s := fun s hs => by
    have := lev_mem.1 hs
    have hg := hp.g s this.1
    exact ⟨hts s (by simp [this.1]), by omega⟩
  obtain ⟨a, ha⟩ : ∃ a, a = ah (Z.lt (Z.x t)) Z.f (Z.lev j) := ⟨_, rfl⟩
  have hat : a ∈ ts ∧ j < Z.m a := by
    have := ah_in (Z.lt (Z.x t)) (Z.lev j) Z.f
    rw [← ha] at this
    rcases List.mem_cons.1 this with e | e
    · exact ⟨hts a (by simp [e]), by rw [e, hp.mf]; omega⟩
    · exact hin a e
  have hob : ∀ b, o = some b → b ∈ ts := fun b hb => (hin b (be_mem _ _ b (ho.trans hb)).1).1
  have hlk : ∀ x, ah (Z.lt (Z.x t)) Z.f (Z.lev j) = x → Z.nx x j = o := fun x hx => by rw [← hx, chain_ah _ (hp.chain j (by omega)), ho]
  have HLK := hide (hlk a ha.symm)
  clear hlk
  have HI := hide (item_any w Z ts t h ht)
  have H0 := hide h
  have HSK := hide (fun W (hW : Below w.heap.size w W) => seek_any W Z ts j A (Z.x t).S (Z.x t).K (Z.x t).T (Z.x t).V (Z.x t).X (h.keep hW) hp hts (by omega) hA)
  obtain ⟨S, K, T, V, X, ex⟩ : ∃ S K T V X, Z.x t = ⟨S, K, T, V, X⟩ := ⟨_, _, _, _, _, rfl⟩
  rw [ex] at HI HSK ho ha hd ⊢
  simp only at HI HSK
  rw [ho, ← ha] at HSK
  rw [← ha]
  have HAT := hide hat
  have HOB := hide hob
  have HT := hide ht
  have HJ := hide hj
  have HA := hide hA
  have HM := hide hm6
  have HD := hide hd
  clear h hp hts hin ho ha hat hob ex ht hj hA hm6 hd
  go_enter Tryd.func42, Tryd.ntmps42
  go_wp2_with fail
  refine HI.out.mono ?_
  rintro e w1 ⟨rfl, b1⟩
  have B1 := hide b1
  obtain ⟨w2, hw2⟩ : ∃ w2, w2 = w1.alloc (Obj.cells #[Value.int IntKind.i64 S, Value.int IntKind.i64 K, Value.int IntKind.u64 T, Value.int IntKind.u64 V, Value.int IntKind.i64 X] 32) := ⟨_, rfl⟩
  have B2 : Hid (Below w.heap.size w w2) := by rw [hw2]; exact hide (b1.alloc b1.size _)
  have hx := vi_new w1 S K T V X
  obtain ⟨R, hR⟩ : ∃ R, R = w1.heap.size := ⟨_, rfl⟩
  rw [← hR, ← hw2] at hx
  have HX := hide hx
  clear b1 hx HI
  go_wp2_with fail
  rw [← hw2, ← hR]
  clear hw2 hR
  go_loopw [8, 9] (fun _ _ wr => wr = w2) (fun _ _ _ => 0)
  case atStart => rfl
  case round =>
    obtain rfl := hrel
    have hv := HX.out
    unfold Vi at hv
    simp only [Nat.zero_add] at hv
    obtain ⟨v0, v1, v2, v3, v4⟩ := hv
    have C1 := hide (HSK.out _ B2.out)
    go_wp2_with fail
    refine C1.out.mono ?_
    rintro e w3 ⟨rfl, b3⟩
    have B3 := hide (bmore B2.out b3)
    have hv := HX.out.keep b3
    have HV := hide hv
    clear v0 v1 v2 v3 v4 b3 C1 HSK hv
    have hne : Nonempty (Kp w3) := ⟨⟨_, Below.refl _ _⟩⟩
    have h3 := H0.out.keep B3.out
    have HP3 := hide h3
    clear h3
    cases o with
    | none =>
      have hpt : pt none = .pointer none := rfl
      rw [hpt]
      have HDF := hide (show d = false from HD.out.symm)
      go_wp2_with fail
      refine wp_region_kept (by kernel_rfl) (by kernel_rfl) ?_
      repeat (first
        | go_big_quiet_step (fail)
        | fail)
      refine wpQuiet_nil ?_
      intro w4 hw'
      have HB4 : Hid (Below w3.heap.size w3 w4) := by
        obtain ⟨⟨w3', hb3⟩, hw''⟩ := hw'
        rw [hw'']; exact hide hb3
      clear hw' hne
      have B4 := hide (bmore B3.out HB4.out)
      have HLO : ∀ b, (none : Option Nat) = some b → b ∈ ts := fun b hb => by cases hb
      have h4 := H0.out.keep B4.out
      have h5 := h4.setLink (j := j) HT.out (none : Option Nat) HLO
      obtain ⟨w5, hw5⟩ : ∃ w5, w5 = w4.setCell ⟨Z.k t, j, none⟩ (pt (none : Option Nat)) := ⟨_, rfl⟩
      rw [← hw5] at h5
      have h6 := h5.setLink (t := a) (j := j) HAT.out.1 (some t) (fun b hb => by cases hb; exact HT.out)
      have hno : up2 Z.nx t j (none : Option Nat) a j = (none : Option Nat) := by
        by_cases hta : a = t
        · rw [hta, up2_same]
        · rw [up2_other _ _ _ _ (.inl hta)]; exact HLK.out
      have C5 := hide (storeP ⟨Z.k t, j, none⟩ _ (none : Option Nat) w4 ((h4.tw t HT.out).link HJ.out) ((h4.tw t HT.out).lnk.free j) (fun b hb => (h4.tw b (HLO b hb)).tow.shape))
      have C6 := hide (casP ⟨Z.k a, j, none⟩ (none : Option Nat) (some t) w5 (by
          have hl5 := (h5.tw a HAT.out.1).link HAT.out.2
          change w5.cell? ⟨Z.k a, j, none⟩ = some (pt (up2 Z.nx t j (none : Option Nat) a j)) at hl5
          rw [hno] at hl5; exact hl5) ((h5.tw a HAT.out.1).lnk.free j) (fun b hb => (h5.tw b (HLO b hb)).tow.shape) (h5.ptT HT.out))
      rw [← hw5] at C5
      have c1 := (h4.tw t HT.out).c1
      have c2 : w5.cell? ⟨a, 1, none⟩ = some (.slice (some ⟨Z.k a, 0, none⟩) (Z.m a) (Z.m a)) := (h5.tw a HAT.out.1).c1
      have hch := hide (Ch.trans (Ch.of (P := fun b => b = Z.k t ∨ b = Z.k a) B4.out) (Ch.trans (Ch.set w4 ⟨Z.k t, j, none⟩ (pt (none : Option Nat)) (.inl rfl)) (Ch.set _ ⟨Z.k a, j, none⟩ (pt (some t)) (.inr rfl))))
      rw [← hw5] at hch
      have H6 := hide h6
      have e1 : A - 1 = (j : Int) := by have := HA.out; omega
      have e2 : IntKind.i64.wrap (j : Int) = (j : Int) := by have := HJ.out; have := HM.out; simp [IntKind.wrap, IntKind.bits, IntKind.signed]; omega
      have e3 : (j : Int) < (Z.m t : Int) := by have := HJ.out; omega
      have e4 : (j : Int) < (Z.m a : Int) := by have := HAT.out.2; omega
      change Hid (Hp _ { Z with nx := up2 (up2 Z.nx t j (none : Option Nat)) a j (some t) } ts) at H6
      change Hid (Hp (w5.setCell ⟨Z.k a, j, none⟩ (pt (some t))) { Z with nx := up2 (up2 Z.nx t j (none : Option Nat)) a j (some t) } ts) at H6
      clear h4 h5 h6 hno hw5 HLO
      go_wp2_with fail
      refine C5.out.mono ?_
      rintro e w6 ⟨rfl, rfl⟩
      go_wp2_with fail
      refine C6.out.mono ?_
      rintro e w7 ⟨rfl, rfl⟩
      go_wp2
      go_ret
      first | exact ⟨rfl, H6.out, hch.out⟩ | exact ⟨fun h => absurd (HDF.out.symm.trans h) (by simp), fun _ => ⟨rfl, H6.out, hch.out⟩⟩
    | some b =>
      have hpt : pt (some b) = .pointer (some ⟨b, 0, none⟩) := rfl
      rw [hpt]
      have hbt := HOB.out b rfl
      have hI := hide (fun W (hW : Below w3.heap.size w3 W) => item_any W Z ts b (HP3.out.keep hW) hbt)
      have d0 : ∀ p : Kp w3, p.W.cell? ⟨R, 0, none⟩ = some (.int .i64 S) := fun p => (Vi.keep HV.out p.h).1
      have d1 : ∀ p : Kp w3, p.W.cell? ⟨R, 1, none⟩ = some (.int .i64 K) := fun p => (Vi.keep HV.out p.h).2.1
      have d2 : ∀ p : Kp w3, p.W.cell? ⟨R, 2, none⟩ = some (.int .u64 T) := fun p => (Vi.keep HV.out p.h).2.2.1
      have d3 : ∀ p : Kp w3, p.W.cell? ⟨R, 3, none⟩ = some (.int .u64 V) := fun p => (Vi.keep HV.out p.h).2.2.2.1
      have d4 : ∀ p : Kp w3, p.W.cell? ⟨R, 4, none⟩ = some (.int .i64 X) := fun p => (Vi.keep HV.out p.h).2.2.2.2
      have hdd := hide (show sameI (Z.x b).S (Z.x b).K (Z.x b).T S K T = d from HD.out)
      obtain ⟨S1, K1, T1, V1, X1, ex⟩ : ∃ S1 K1 T1 V1 X1, Z.x b = ⟨S1, K1, T1, V1, X1⟩ := ⟨_, _, _, _, _, rfl⟩
      rw [ex] at hI hdd
      simp only at hI hdd
      have c0 : Hid (∀ p : Kp w3, Calls Tryd.prog 56 #[.pointer (some ⟨b, 0, none⟩)] p.W fun e w'' => e = .returned (.agg #[.int .i64 S1, .int .i64 K1, .int .u64 T1, .int .u64 V1, .int .i64 X1]) ∧ ∃ q : Kp w3, w'' = q.W) := hide fun p => kp_call (hI.out _ p.h)
      have cs : Hid (∀ p : Kp w3, Calls Tryd.prog 58 #[.agg #[.int .i64 S1, .int .i64 K1, .int .u64 T1, .int .u64 V1, .int .i64 X1], .agg #[.int .i64 S, .int .i64 K, .int .u64 T, .int .u64 V, .int .i64 X]] p.W fun e w'' => e = .returned (.bool (sameI S1 K1 T1 S K T)) ∧ ∃ q : Kp w3, w'' = q.W) := hide fun p => kp_call (same_any S1 K1 T1 V1 X1 S K T V X _)
      rw [hdd.out] at cs
      clear hbt ex hI hdd
      go_wp2_with fail
      refine wp_region_kept (by kernel_rfl) (by kernel_rfl) ?_
      repeat (first
        | go_big_quiet_step (first | (go_at_call 56; exact c0.out _) | (go_at_call 58; exact cs.out _))
        | fail)
      refine wpQuiet_nil ?_
      intro w4 hw'
      have HB4 : Hid (Below w3.heap.size w3 w4) := by
        obtain ⟨⟨w3', hb3⟩, hw''⟩ := hw'
        rw [hw'']; exact hide hb3
      clear hw' hne d0 d1 d2 d3 d4 c0 cs
      have B4 := hide (bmore B3.out HB4.out)
      cases d with
      | true =>
        go_wp2
        go_ret
        first | exact ⟨rfl, B4.out⟩ | exact ⟨fun _ => ⟨rfl, B4.out⟩, fun h => by cases h⟩
      | false =>
        have HDF := hide (rfl : false = false)
        have HLO : ∀ c, some b = some c → c ∈ ts := HOB.out
        have h4 := H0.out.keep B4.out
        have h5 := h4.setLink (j := j) HT.out (some b) HLO
        obtain ⟨w5, hw5⟩ : ∃ w5, w5 = w4.setCell ⟨Z.k t, j, none⟩ (pt (some b)) := ⟨_, rfl⟩
        rw [← hw5] at h5
        have h6 := h5.setLink (t := a) (j := j) HAT.out.1 (some t) (fun b hb => by cases hb; exact HT.out)
        have hno : up2 Z.nx t j (some b) a j = (some b) := by
          by_cases hta : a = t
          · rw [hta, up2_same]
          · rw [up2_other _ _ _ _ (.inl hta)]; exact HLK.out
        have C5 := hide (storeP ⟨Z.k t, j, none⟩ _ (some b) w4 ((h4.tw t HT.out).link HJ.out) ((h4.tw t HT.out).lnk.free j) (fun b hb => (h4.tw b (HLO b hb)).tow.shape))
        have C6 := hide (casP ⟨Z.k a, j, none⟩ (some b) (some t) w5 (by
            have hl5 := (h5.tw a HAT.out.1).link HAT.out.2
            change w5.cell? ⟨Z.k a, j, none⟩ = some (pt (up2 Z.nx t j (some b) a j)) at hl5
            rw [hno] at hl5; exact hl5) ((h5.tw a HAT.out.1).lnk.free j) (fun b hb => (h5.tw b (HLO b hb)).tow.shape) (h5.ptT HT.out))
        rw [← hw5] at C5
        have c1 := (h4.tw t HT.out).c1
        have c2 : w5.cell? ⟨a, 1, none⟩ = some (.slice (some ⟨Z.k a, 0, none⟩) (Z.m a) (Z.m a)) := (h5.tw a HAT.out.1).c1
        have hch := hide (Ch.trans (Ch.of (P := fun b => b = Z.k t ∨ b = Z.k a) B4.out) (Ch.trans (Ch.set w4 ⟨Z.k t, j, none⟩ (pt (some b)) (.inl rfl)) (Ch.set _ ⟨Z.k a, j, none⟩ (pt (some t)) (.inr rfl))))
        rw [← hw5] at hch
        have H6 := hide h6
        have e1 : A - 1 = (j : Int) := by have := HA.out; omega
        have e2 : IntKind.i64.wrap (j : Int) = (j : Int) := by have := HJ.out; have := HM.out; simp [IntKind.wrap, IntKind.bits, IntKind.signed]; omega
        have e3 : (j : Int) < (Z.m t : Int) := by have := HJ.out; omega
        have e4 : (j : Int) < (Z.m a : Int) := by have := HAT.out.2; omega
        change Hid (Hp _ { Z with nx := up2 (up2 Z.nx t j (some b)) a j (some t) } ts) at H6
        change Hid (Hp (w5.setCell ⟨Z.k a, j, none⟩ (pt (some t))) { Z with nx := up2 (up2 Z.nx t j (some b)) a j (some t) } ts) at H6
        clear h4 h5 h6 hno hw5 HLO
        go_wp2_with fail
        refine C5.out.mono ?_
        rintro e w6 ⟨rfl, rfl⟩
        go_wp2_with fail
        refine C6.out.mono ?_
        rintro e w7 ⟨rfl, rfl⟩
        go_wp2
        go_ret
        first | exact ⟨rfl, H6.out, hch.out⟩ | exact ⟨fun h => absurd (HDF.out.symm.trans h) (by simp), fun _ => ⟨rfl, H6.out, hch.out⟩⟩
end
theorem join_at (La : Nat) (w : World) (Z : Sk) (hLa : Z.L = La) (ts : List Nat) (t j : Nat) (A : Int) (h : Hp w Z ts) (hp : Pu Z) (hts : ∀ s ∈ Z.f :: Z.l, s ∈ ts) (ht : t ∈ ts) (hj : j < Z.m t) (hA : A = j + 1) (o : Option Nat)
    (ho : be (Z.lt (Z.x t)) (Z.lev j) = o) (d : Bool) (hd : thereIs Z (Z.x t) o = d) :
    Calls Tryd.prog 42 #[.pointer (some ⟨La, 0, none⟩), .pointer (some ⟨t, 0, none⟩), .int .i64 A] w fun e w' =>
      (d = true → e = .returned (pt o) ∧ Below w.heap.size w w') ∧ (d = false → e = .returned (pt (some t)) ∧
        Hp w' { Z with nx := up2 (up2 Z.nx t j o) (ah (Z.lt (Z.x t)) Z.f (Z.lev j)) j (some t) } ts ∧ Ch (fun b => b = Z.k t ∨ b = Z.k (ah (Z.lt (Z.x t)) Z.f (Z.lev j))) w w') := by
  subst hLa
  exact join_core w Z ts t j A h hp hts ht hj hA o ho d hd

end Go.Proofs.YtjpoahnecbefaaaDoor.Clep
