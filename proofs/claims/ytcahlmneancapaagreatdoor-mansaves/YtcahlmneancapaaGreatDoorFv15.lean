/- What next and sweep of a Manifest do when called (walks over the translated program). Disks of up to 60 files of a manifest. -/
import Derived.Test.YtcahlmneancapaaGreatDoorFv11
import Derived.Test.YtcahlmneancapaaGreatDoorFv14
import Derived.RowKit
import Derived.Test.YtcahlmneancapaaGreatDoorFv00
namespace Go.Proofs.YtcahlmneancapaaGreatDoor.Clep
open Go.RowKit Go.Maps Go.Sort
set_option linter.unusedVariables false
set_option maxRecDepth 10000

theorem list_dead {F : Nat → Prop} {R : Nat} {S : St} {w : World} (h : Held F w R S) (hd : S.dead = true) :
    Calls Tryz.prog 16 #[.pointer (some ⟨R, 0, none⟩)] w fun e w' => e = .returned (.slice none 0 0) ∧ w' = w := by
  obtain ⟨G, D, hF⟩ := h
  have c4 := D.cells.1.2.2.2.2
  rw [hd] at c4
  clear D hF
  go_enter Tryz.func16, Tryz.ntmps16
  go_wp2
  go_ret
  exact ⟨rfl, rfl⟩
/-- The names that List tells. -/
def listS (S : St) : List (List UInt8) := if S.dead then [] else namesL S
theorem mlist_any {F : Nat → Prop} {R : Nat} {S : St} {T : Nat} {w : World} (h : Held F w R S) (D : Dk S T) (hm : S.calls ≤ 1099511627776) :
    Calls Tryz.prog 16 #[.pointer (some ⟨R, 0, none⟩)] w fun e w' => ∃ so sc, e = .returned (.slice so (listS S).length sc) ∧ (listS S).length ≤ 62 ∧ (0 < (listS S).length → ∃ g, so = some ⟨g, 0, none⟩ ∧ g < w'.heap.size ∧ w.heap.size ≤ g ∧ ∀ i l, (listS S)[i]? = some l → w'.cell? ⟨g, i, none⟩ = some (.string (strB l))) ∧ Held F w' R S ∧ Below w.heap.size w w' := by
  have hlen := names_len D
  unfold listS
  cases hd : S.dead with
  | true =>
    refine (list_dead h hd).mono ?_
    rintro e w' ⟨rfl, rfl⟩
    exact ⟨none, 0, rfl, by simp, fun h0 => by simp at h0, h, Below.refl _ _⟩
  | false =>
    have hL : ∀ l ∈ namesL S, l.length ≤ 70368744177664 := fun l hl => by
      have hz : (strB l).size = l.length := by unfold strB; simp [ByteArray.size]
      rcases D.now.sup _ ((names_mem S D.hn l).1 hl) with e | e | ⟨k, h1, h2, e⟩
      · rw [← hz, e]; decide
      · rw [← hz, e]; decide
      · rw [← hz, e]; have := (mnm_okAll k (by have := D.sm; omega)).2; omega
    refine (list_h h hd hm hL).mono ?_
    rintro e w' ⟨so, sc, rfl, hrow, hh, hb⟩
    obtain ⟨so', sc', he, hsc, hc⟩ := row_slice hrow
    injection he with e1 e2 e3
    subst e1 e3
    refine ⟨so, sc, rfl, hlen, fun h0 => ?_, hh, hb⟩
    obtain ⟨g, hg, hcell⟩ := hc h0
    subst hg
    have hl := World.ownsRow.lt hrow g rfl
    refine ⟨g, rfl, hl.2, hl.1, fun i l hi => ?_⟩
    have := hcell i (encStr l) (by rw [List.getElem?_map, show (namesL S)[i]? = some l from hi]; rfl)
    rw [this]; rfl
/-- Each name of such a Disk may be asked for its number. -/
theorem list_ok {S : St} {T : Nat} (D : Dk S T) : ∀ l ∈ listS S, okM T (strB l) := fun l hl => by
  unfold listS at hl
  split at hl
  · cases hl
  · exact D.now.sup _ ((names_mem S D.hn l).1 hl)
theorem most_snoc : ∀ (l : List (List UInt8)) (x : List UInt8) (m : Nat), mostL (l ++ [x]) m = max (mostL l m) (numM (strB x))
  | [], x, m => rfl
  | y :: r, x, m => most_snoc r x _
theorem take_snoc {α : Type} {l : List α} {k : Nat} {x : α} (h : l[k]? = some x) : l.take (k + 1) = l.take k ++ [x] := by
  rw [List.take_add_one, h]; rfl
theorem most_lt : ∀ (l : List (List UInt8)) (m : Nat), m ≤ 1000 → (∀ x ∈ l, numM (strB x) ≤ 1000) → mostL l m ≤ 1000
  | [], m, h, _ => h
  | x :: r, m, h, hl => most_lt r _ (Nat.max_le.2 ⟨h, hl x List.mem_cons_self⟩) (fun y hy => hl y (List.mem_cons_of_mem _ hy))
set_option maxHeartbeats 1000000 in
theorem mnext_any {F : Nat → Prop} {w : World} {M R n c T : Nat} {V : Vw} {br : Bool} {S : St} (h : Ma F w M R n c V br S) (D : Dk S T) (hm : S.calls ≤ 1099511627776) :
    Calls Tryz.prog 44 #[.pointer (some ⟨M, 0, none⟩)] w fun e w' => e = .returned (.int .i64 (nextS S : Nat)) ∧ Below w.heap.size w w' := by
  obtain ⟨fa, fc, hb, _⟩ := h.blk
  have c0 : w.cell? ⟨M, 0, none⟩ = some (.pointer (some ⟨R, 0, none⟩)) := hb.cell rfl
  have L := hide (mlist_any h.held D hm)
  have HOK := hide (list_ok D)
  have hT := D.sm
  have hns : nextS S = mostL (listS S) 0 + 1 := rfl
  rw [hns]
  have HNM := hide (show ∀ x ∈ listS S, numM (strB x) ≤ 60 from fun x hx => Nat.le_trans (numM_ok (HOK.out x hx) hT) hT)
  generalize listS S = l at *
  generalize hN : l.length = N at *
  have HN := hide hN
  clear h hb D hns hN
  go_enter Tryz.func44, Tryz.ntmps44
  go_wp2_with fail
  refine L.out.mono ?_
  rintro e w1 ⟨so, sc, rfl, hl62, hcs, -, hb1⟩
  have HC := hide hcs
  have HB1 := hide hb1
  clear L hcs hb1 c0
  go_wp2_with fail
  go_loopw [3, 14] (fun s3 s14 wr => ∃ k m : Nat, k ≤ N ∧ s14 = .int .i64 k ∧ s3 = .int .i64 m ∧ m ≤ 60 ∧ Hid (m = mostL (l.take k) 0) ∧ Below w1.heap.size w1 wr) (fun _ s14 _ => N - (intOf s14).toNat)
  case atStart => exact ⟨0, 0, by omega, rfl, rfl, by omega, hide rfl, Below.refl _ _⟩
  case round =>
    obtain ⟨k, m, hk, rfl, rfl, hm60, hmm, hbw⟩ := hrel
    by_cases hlt : k < N
    · obtain ⟨x, hx⟩ : ∃ x, l[k]? = some x := ⟨_, List.getElem?_eq_getElem (by rw [HN.out]; exact hlt)⟩
      obtain ⟨g, rfl, hg1, hg2, hcell⟩ := HC.out (by omega)
      have hc := (hbw.cell (p := ⟨g, k, none⟩) hg1).trans (hcell k x hx)
      have hxm : x ∈ l := List.mem_of_getElem? hx
      have NU := hide (number_any (strB x) (HOK.out x hxm) hT wr)
      have hx60 := HNM.out x hxm
      have HM := hide (show max m (numM (strB x)) = mostL (l.take (k + 1)) 0 by rw [take_snoc hx, most_snoc, ← hmm.out])
      have hmax : max (m : Int) (numM (strB x) : Int) = ((max m (numM (strB x)) : Nat) : Int) := by omega
      have hmx : max m (numM (strB x)) ≤ 60 := by omega
      have HBW := hide hbw
      unfold kMan at NU
      clear hcell hx hxm hmm hbw
      generalize numM (strB x) = q at *
      generalize strB x = X at *
      obtain ⟨QB, hQB⟩ : ∃ QB, decide (q ≠ 0) = QB := ⟨_, rfl⟩
      rw [hQB] at NU
      clear hQB
      go_wp2_with fail
      refine NU.out.mono ?_
      rintro e w2 ⟨rfl, hb2⟩
      have HB2 := hide (bmore HBW.out hb2)
      clear NU hb2 HBW hc
      go_wp2
      go_roundw
      case rel => exact ⟨k + 1, max m q, by omega, by go_num, by first | rfl | (simp; omega) | go_num, hmx, hide HM.out, HB2.out⟩
      case measure => simp [intOf]; omega
    · have hkN : k = N := by omega
      subst hkN
      rw [show l.take k = l by rw [List.take_of_length_le (by rw [HN.out]; omega)]] at hmm
      have HMM := hide hmm.out
      have HBE := hide (bmore HB1.out hbw)
      clear hmm hbw
      go_wp2
      go_ret
      refine ⟨?_, HBE.out⟩
      rw [← HMM.out]
      rfl

theorem sweep_snoc (n : Nat) : ∀ (l : List (List UInt8)) (x : List UInt8) (S : St), sweepL n (l ++ [x]) S = if numM (strB x) ≠ 0 ∧ numM (strB x) ≠ n then (rmvS (sweepL n l S) (strB x)).2 else sweepL n l S
  | [], x, S => rfl
  | y :: r, x, S => sweep_snoc n r x _
theorem sweep_calls (n : Nat) : ∀ (l : List (List UInt8)) (S : St), (sweepL n l S).calls ≤ S.calls + l.length
  | [], S => Nat.le_refl _
  | y :: r, S => by
    have h := sweep_calls n r (if numM (strB y) ≠ 0 ∧ numM (strB y) ≠ n then (rmvS S (strB y)).2 else S)
    have h2 := rmv_calls S (strB y)
    show (sweepL n r _).calls ≤ _
    simp only [List.length_cons]
    split at h <;> split <;> omega
set_option maxHeartbeats 1000000 in
theorem sweep_any {F : Nat → Prop} {w : World} {M R n c T : Nat} {V : Vw} {br : Bool} {S : St} (h : Ma F w M R n c V br S) (D : Dk S T) (hm : S.calls < 549755813888) :
    Calls Tryz.prog 75 #[.pointer (some ⟨M, 0, none⟩)] w fun e w' => e = .returned (.tuple #[]) ∧ Ma F w' M R n c V br (sweepL n (listS S) S) ∧ Same F w w' := by
  obtain ⟨fa, fc, hb, _⟩ := h.blk
  have c0 : w.cell? ⟨M, 0, none⟩ = some (.pointer (some ⟨R, 0, none⟩)) := hb.cell rfl
  have L := hide (mlist_any h.held D (by omega))
  have HOK := hide (list_ok D)
  have hT := D.sm
  have HNM := hide (show ∀ x ∈ listS S, numM (strB x) ≤ 60 from fun x hx => Nat.le_trans (numM_ok (HOK.out x hx) hT) hT)
  have HSW := hide (fun k => sweep_calls n ((listS S).take k) S)
  generalize listS S = l at *
  generalize hN : l.length = N at *
  have HN := hide hN
  have H := hide h
  clear h hb D hN
  go_enter Tryz.func75, Tryz.ntmps75
  go_wp2_with fail
  refine L.out.mono ?_
  rintro e w1 ⟨so, sc, rfl, hl62, hcs, -, hb1⟩
  have HC := hide hcs
  have H1 := hide (H.out.wide hb1)
  have HS1 := hide (same_of (F := F) hb1 (fun i hi => H.out.held.lt hi))
  have hsz1 := hb1.size
  clear L hcs hb1 c0
  go_wp2_with fail
  go_loopw [12] (fun s12 wr => ∃ k : Nat, k ≤ N ∧ s12 = .int .i64 k ∧ Hid (Ma (fun i => F i ∨ (w.heap.size ≤ i ∧ i < w1.heap.size)) wr M R n c V br (sweepL n (l.take k) S) ∧ Same (fun i => F i ∨ (w.heap.size ≤ i ∧ i < w1.heap.size)) w1 wr)) (fun s12 _ => N - (intOf s12).toNat)
  case atStart => exact ⟨0, by omega, rfl, hide ⟨H1.out, Same.refl _ _⟩⟩
  case round =>
    obtain ⟨k, hk, rfl, HP⟩ := hrel
    by_cases hlt : k < N
    · obtain ⟨x, hx⟩ : ∃ x, l[k]? = some x := ⟨_, List.getElem?_eq_getElem (by rw [HN.out]; exact hlt)⟩
      obtain ⟨g, rfl, hg1, hg2, hcell⟩ := HC.out (by omega)
      have hc : wr.cell? ⟨g, k, none⟩ = some (.string (strB x)) := (World.cell?_of_block (HP.out.2.block g (.inr ⟨hg2, hg1⟩))).trans (hcell k x hx)
      have hxm : x ∈ l := List.mem_of_getElem? hx
      have hok := HOK.out x hxm
      have NU := hide (number_any (strB x) hok hT wr)
      have hx60 := HNM.out x hxm
      have HSN := hide (sweep_snoc n (l.take k) x S)
      rw [← take_snoc hx] at HSN
      have hsc := HSW.out k
      have hlk : (l.take k).length = k := by rw [List.length_take, HN.out]; omega
      rw [hlk] at hsc
      have hsz : (strB x).size ≤ 70368744177664 := by
        rcases hok with e | e | ⟨k, h1, h2, e⟩
        · rw [e]; decide
        · rw [e]; decide
        · rw [e]; have := (mnm_okAll k (by omega)).2; omega
      unfold kMan at NU
      clear hcell hx hxm hok hlk
      generalize numM (strB x) = q at *
      generalize strB x = X at *
      generalize sweepL n (l.take k) S = S1 at *
      by_cases hq0 : q = 0
      · subst hq0
        rw [if_neg (by simp)] at HSN
        go_wp2_with fail
        refine NU.out.mono ?_
        rintro e w2 ⟨rfl, hb2⟩
        have HP2 := hide (And.intro (HP.out.1.below hb2) (HP.out.2.trans (same_of hb2 (fun i hi => HP.out.1.held.lt hi))))
        clear NU hb2 HP hc
        go_wp2
        go_roundw
        case rel => exact ⟨k + 1, by omega, by go_num, by rw [HSN.out]; exact HP2⟩
        case measure => simp [intOf]; omega
      · have hdq : decide (q ≠ 0) = true := by simp [hq0]
        rw [hdq] at NU
        obtain ⟨a2, fc2, hb2, _⟩ := HP.out.1.blk
        by_cases hqn : q = n
        · subst hqn
          rw [if_neg (by simp)] at HSN
          go_wp2_with fail
          refine NU.out.mono ?_
          rintro e w2 ⟨rfl, hbb⟩
          have HP2 := hide (And.intro (HP.out.1.below hbb) (HP.out.2.trans (same_of hbb (fun i hi => HP.out.1.held.lt hi))))
          have c1 : w2.cell? ⟨M, 1, none⟩ = some (.int .i64 q) := (hb2.keep hbb).cell rfl
          clear NU hbb HP hc hb2 hdq
          go_wp2
          go_roundw
          case rel => exact ⟨k + 1, by omega, by go_num, by rw [HSN.out]; exact HP2⟩
          case measure => simp [intOf]; omega
        · rw [if_pos ⟨hq0, hqn⟩] at HSN
          have hqi : ¬ ((q : Int) = (n : Int)) := by omega
          obtain ⟨E2, S2, e2⟩ : ∃ E2 S2, rmvS S1 X = (E2, S2) := ⟨_, _, rfl⟩
          rw [e2] at HSN
          have HE2 := hide e2
          clear e2
          go_wp2_with fail
          refine NU.out.mono ?_
          rintro e w2 ⟨rfl, hbb⟩
          have HP2 := hide (And.intro (HP.out.1.below hbb) (HP.out.2.trans (same_of hbb (fun i hi => HP.out.1.held.lt hi))))
          have c1 : w2.cell? ⟨M, 1, none⟩ = some (.int .i64 n) := (hb2.keep hbb).cell rfl
          have c0 : w2.cell? ⟨M, 0, none⟩ = some (.pointer (some ⟨R, 0, none⟩)) := (hb2.keep hbb).cell rfl
          have RM := hide (remove_h X HE2.out HP2.out.1.held (by omega) hsz)
          clear NU hbb HP hc hb2 hdq HE2
          go_wp2_with fail
          refine RM.out.mono ?_
          rintro e w3 ⟨rfl, h3, s3⟩
          have HP3 := hide (And.intro (HP2.out.1.disk h3 s3) (HP2.out.2.trans s3))
          clear RM h3 s3 HP2 c0 c1
          go_wp2
          go_roundw
          case rel => exact ⟨k + 1, by omega, by go_num, by rw [HSN.out]; exact HP3⟩
          case measure => simp [intOf]; omega
    · have hkN : k = N := by omega
      subst hkN
      rw [show l.take k = l by rw [List.take_of_length_le (by rw [HN.out]; omega)]] at HP
      have HQ := HS1.out.trans (HP.out.2.mono (F' := F) (fun i hi => .inl hi))
      have HE : Hid (Ma F wr M R n c V br (sweepL n l S) ∧ Same F w wr) := hide ⟨H.out.disk (HP.out.1.held.less (fun i hi => .inl hi)) HQ, HQ⟩
      clear HP HQ
      go_wp2
      go_end0
      exact ⟨rfl, HE.out⟩
end Go.Proofs.YtcahlmneancapaaGreatDoor.Clep

/- Plain mathematics of the sums of texts (CRC-32C): a sum is linear over exclusive or, one step of it is one to one, keeps the parity of the bits, and does not come back to 1 within 32,767 steps. No conditions. -/
namespace Go.Proofs.YtcahlmneancapaaGreatDoor.Clep
set_option linter.unusedVariables false
set_option maxRecDepth 10000

/-- One bit of a sum. -/
def stp (c : Nat) : Nat := c / 2 ^^^ c % 2 * 2197175160
/-- k bits of a sum. -/
def it : Nat → Nat → Nat
  | 0, c => c
  | k + 1, c => it k (stp c)

theorem xor_div2 (a b : Nat) : (a ^^^ b) / 2 = a / 2 ^^^ b / 2 := by
  have := Nat.shiftRight_xor_distrib (a := a) (b := b) (i := 1)
  simpa [Nat.shiftRight_eq_div_pow] using this
theorem xor_mod2 (a b : Nat) : (a ^^^ b) % 2 = (a % 2 + b % 2) % 2 := by
  have := Nat.xor_mod_two_pow (a := a) (b := b) (n := 1)
  rw [show (2 : Nat) ^ 1 = 2 from rfl] at this
  rw [this]
  have ha : a % 2 = 0 ∨ a % 2 = 1 := by omega
  have hb : b % 2 = 0 ∨ b % 2 = 1 := by omega
  rcases ha with ha | ha <;> rcases hb with hb | hb <;> rw [ha, hb] <;> rfl
theorem bit_mul (x y p : Nat) (hx : x < 2) (hy : y < 2) : (x + y) % 2 * p = x * p ^^^ y * p := by
  have hx : x = 0 ∨ x = 1 := by omega
  have hy : y = 0 ∨ y = 1 := by omega
  rcases hx with rfl | rfl <;> rcases hy with rfl | rfl <;> simp

theorem stp_xor (a b : Nat) : stp (a ^^^ b) = stp a ^^^ stp b := by
  unfold stp
  rw [xor_div2, xor_mod2, bit_mul _ _ _ (by omega) (by omega)]
  simp only [Nat.xor_assoc]
  congr 1
  rw [← Nat.xor_assoc, ← Nat.xor_assoc, Nat.xor_comm (b / 2)]
theorem it_xor : ∀ (k a b : Nat), it k (a ^^^ b) = it k a ^^^ it k b
  | 0, a, b => rfl
  | k + 1, a, b => by rw [it, stp_xor, it_xor k]; rfl
theorem it_add : ∀ (k m a : Nat), it (k + m) a = it m (it k a)
  | 0, m, a => by rw [Nat.zero_add]; rfl
  | k + 1, m, a => by rw [show k + 1 + m = k + m + 1 from by omega, it, it_add k m]; rfl
theorem stp_two (x : Nat) : stp (2 * x) = x := by
  unfold stp; rw [show 2 * x / 2 = x from by omega, show 2 * x % 2 = 0 from by omega]; simp
theorem it_shift : ∀ (k x : Nat), it k (2 ^ k * x) = x
  | 0, x => by simp [it]
  | k + 1, x => by rw [it, show 2 ^ (k + 1) * x = 2 * (2 ^ k * x) from by rw [Nat.pow_succ]; simp only [Nat.mul_comm, Nat.mul_left_comm], stp_two, it_shift k]
theorem it_zero (k : Nat) : it k 0 = 0 := by have := it_shift k 0; simpa using this
theorem it_far (m k x : Nat) (h : k ≤ m) : it m (2 ^ k * x) = it (m - k) x := by
  rw [show m = k + (m - k) from by omega, it_add, it_shift, show k + (m - k) - k = m - k from by omega]

theorem stp_lt (c : Nat) (h : c < 4294967296) : stp c < 4294967296 := by
  unfold stp
  have : c % 2 * 2197175160 < 2 ^ 32 := by have : c % 2 < 2 := by omega
                                           omega
  exact Nat.xor_lt_two_pow (n := 32) (by omega) this
theorem it_lt : ∀ (k c : Nat), c < 4294967296 → it k c < 4294967296
  | 0, c, h => h
  | k + 1, c, h => it_lt k _ (stp_lt c h)
theorem xor_eq_zero {a b : Nat} (h : a ^^^ b = 0) : a = b := by
  have : a ^^^ b ^^^ b = 0 ^^^ b := by rw [h]
  simpa [Nat.xor_assoc] using this
theorem stp_zero (c : Nat) (h : c < 4294967296) (h0 : stp c = 0) : c = 0 := by
  have e := xor_eq_zero h0
  have : c % 2 = 0 ∨ c % 2 = 1 := by omega
  rcases this with h2 | h2 <;> rw [h2] at e <;> omega
theorem it_ne : ∀ (k c : Nat), c < 4294967296 → it k c = 0 → c = 0
  | 0, c, _, h0 => h0
  | k + 1, c, h, h0 => stp_zero c h (it_ne k _ (stp_lt c h) h0)
theorem it_inj (k a b : Nat) (ha : a < 4294967296) (hb : b < 4294967296) (h : it k a = it k b) : a = b := by
  refine xor_eq_zero (it_ne k _ (Nat.xor_lt_two_pow (n := 32) ha hb) ?_)
  rw [it_xor, h, Nat.xor_self]

/-- The parity of the first f bits. -/
def par : Nat → Nat → Nat
  | 0, _ => 0
  | f + 1, n => (n % 2 + par f (n / 2)) % 2
theorem par_xor : ∀ (f a b : Nat), par f (a ^^^ b) = (par f a + par f b) % 2
  | 0, a, b => rfl
  | f + 1, a, b => by
    simp only [par]
    rw [xor_mod2, xor_div2, par_xor f]
    omega
theorem par_zero : ∀ (f : Nat), par f 0 = 0
  | 0 => rfl
  | f + 1 => by simp only [par, Nat.zero_div, par_zero f]
theorem par_poly : ∀ (f : Nat), par (f + 32) 2197175160 = 1
  | f => by
    have : ∀ n, n ≤ 32 → par (f + n) (2197175160 / 2 ^ (32 - n)) = par n (2197175160 / 2 ^ (32 - n)) := by
      intro n
      induction n with
      | zero => intro _; simp [par_zero, show (2197175160 : Nat) / 2 ^ 32 = 0 from by decide, par]
      | succ n ih =>
        intro hn
        have ih := ih (by omega)
        rw [show f + (n + 1) = f + n + 1 from by omega]
        simp only [par]
        rw [Nat.div_div_eq_div_mul, show 2 ^ (32 - (n + 1)) * 2 = 2 ^ (32 - n) from by rw [← Nat.pow_succ]; congr 1; omega, ih]
    have h := this 32 (by omega)
    simp only [Nat.sub_self, Nat.pow_zero, Nat.div_one] at h
    rw [h]; decide
theorem par_stp (f c : Nat) (hf : 32 ≤ f) : par f (stp c) = par (f + 1) c := by
  obtain ⟨g, rfl⟩ : ∃ g, f = g + 32 := ⟨f - 32, by omega⟩
  unfold stp
  rw [par_xor, show par (g + 32 + 1) c = (c % 2 + par (g + 32) (c / 2)) % 2 from rfl]
  have : c % 2 = 0 ∨ c % 2 = 1 := by omega
  rcases this with h2 | h2 <;> rw [h2]
  · rw [Nat.zero_mul, par_zero]; omega
  · rw [Nat.one_mul, par_poly]; omega
theorem par_it : ∀ (k c : Nat), par 32 (it k c) = par (32 + k) c
  | 0, c => rfl
  | k + 1, c => by
    rw [it, par_it k, par_stp _ _ (by omega)]; rfl
theorem par_bit : ∀ (f i : Nat), i < f → par f (2 ^ i) = 1
  | f + 1, 0, _ => by simp [par, par_zero]
  | f + 1, i + 1, h => by
    simp only [par]
    rw [Nat.pow_succ, show 2 ^ i * 2 % 2 = 0 from by omega, show 2 ^ i * 2 / 2 = 2 ^ i from by omega, par_bit f i (by omega)]

/-- From c on, none of n steps comes to 1, and they end at e. -/
def far : Nat → Nat → Nat → Bool
  | 0, c, e => c == e
  | n + 1, c, e => match (c / 2 ^^^ c % 2 * 2197175160) == 1 with
    | true => false
    | false => far n (c / 2 ^^^ c % 2 * 2197175160) e
theorem far_ne : ∀ (n c e : Nat), far n c e = true → (∀ d, 0 < d → d ≤ n → it d c ≠ 1) ∧ it n c = e
  | 0, c, e, h => ⟨fun d h0 h1 => by omega, by simpa [far, it] using h⟩
  | n + 1, c, e, h => by
    rw [far] at h
    split at h
    · cases h
    · next hc =>
      have ih := far_ne n _ e h
      refine ⟨fun d h0 h1 => ?_, ih.2⟩
      cases d with
      | zero => omega
      | succ d =>
        rw [it]
        cases d with
        | zero => simpa [it, stp] using hc
        | succ d => exact ih.1 (d + 1) (by omega) (by omega)
def Upto (n e : Nat) : Prop := (∀ d, 0 < d → d ≤ n → it d 1 ≠ 1) ∧ it n 1 = e
theorem upto_more {n e f : Nat} (h : Upto n e) (hf : far 1024 e f = true) : Upto (n + 1024) f := by
  have h2 := far_ne 1024 e f hf
  refine ⟨fun d h0 h1 => ?_, by rw [it_add, h.2]; exact h2.2⟩
  rcases Nat.lt_or_ge n d with hd | hd
  · rw [show d = n + (d - n) from by omega, it_add, h.2]
    exact h2.1 (d - n) (by omega) (by omega)
  · exact h.1 d h0 hd
theorem upto_0 : Upto 0 1 := ⟨fun d h0 h1 => by omega, rfl⟩
theorem upto_1 : Upto 1024 1771228834 := upto_more upto_0 (by decide +kernel)
theorem upto_2 : Upto 2048 3702618788 := upto_more upto_1 (by decide +kernel)
theorem upto_3 : Upto 3072 11282895 := upto_more upto_2 (by decide +kernel)
theorem upto_4 : Upto 4096 3178201592 := upto_more upto_3 (by decide +kernel)
theorem upto_5 : Upto 5120 1297520444 := upto_more upto_4 (by decide +kernel)
theorem upto_6 : Upto 6144 2375439644 := upto_more upto_5 (by decide +kernel)
theorem upto_7 : Upto 7168 3708241038 := upto_more upto_6 (by decide +kernel)
theorem upto_8 : Upto 8192 4264641112 := upto_more upto_7 (by decide +kernel)
theorem upto_9 : Upto 9216 1672384998 := upto_more upto_8 (by decide +kernel)
theorem upto_10 : Upto 10240 1955735041 := upto_more upto_9 (by decide +kernel)
theorem upto_11 : Upto 11264 1850521136 := upto_more upto_10 (by decide +kernel)
theorem upto_12 : Upto 12288 502925845 := upto_more upto_11 (by decide +kernel)
theorem upto_13 : Upto 13312 368595539 := upto_more upto_12 (by decide +kernel)
theorem upto_14 : Upto 14336 3733624824 := upto_more upto_13 (by decide +kernel)
theorem upto_15 : Upto 15360 3673877116 := upto_more upto_14 (by decide +kernel)
theorem upto_16 : Upto 16384 4149242244 := upto_more upto_15 (by decide +kernel)
theorem upto_17 : Upto 17408 2942908889 := upto_more upto_16 (by decide +kernel)
theorem upto_18 : Upto 18432 1847728860 := upto_more upto_17 (by decide +kernel)
theorem upto_19 : Upto 19456 3927750375 := upto_more upto_18 (by decide +kernel)
theorem upto_20 : Upto 20480 3098967068 := upto_more upto_19 (by decide +kernel)
theorem upto_21 : Upto 21504 3856817104 := upto_more upto_20 (by decide +kernel)
theorem upto_22 : Upto 22528 2415052639 := upto_more upto_21 (by decide +kernel)
theorem upto_23 : Upto 23552 2934850786 := upto_more upto_22 (by decide +kernel)
theorem upto_24 : Upto 24576 3671759371 := upto_more upto_23 (by decide +kernel)
theorem upto_25 : Upto 25600 778524156 := upto_more upto_24 (by decide +kernel)
theorem upto_26 : Upto 26624 2997890085 := upto_more upto_25 (by decide +kernel)
theorem upto_27 : Upto 27648 3938062399 := upto_more upto_26 (by decide +kernel)
theorem upto_28 : Upto 28672 1761173275 := upto_more upto_27 (by decide +kernel)
theorem upto_29 : Upto 29696 703072131 := upto_more upto_28 (by decide +kernel)
theorem upto_30 : Upto 30720 941193457 := upto_more upto_29 (by decide +kernel)
theorem upto_31 : Upto 31744 2863890204 := upto_more upto_30 (by decide +kernel)
theorem upto_32 : Upto 32768 3265640030 := upto_more upto_31 (by decide +kernel)
/-- Within 32,768 steps a sum's one bit does not come back. -/
theorem order (d : Nat) (h0 : 0 < d) (h1 : d ≤ 32768) : it d 1 ≠ 1 := upto_32.1 d h0 h1

end Go.Proofs.YtcahlmneancapaaGreatDoor.Clep

/- Plain mathematics of the sums of texts: a sum as one number's steps; what is sealed; bits that are turned are found. No conditions. -/
namespace Go.Proofs.YtcahlmneancapaaGreatDoor.Clep
set_option linter.unusedVariables false
set_option maxRecDepth 10000

def ByteL (zs : List Int) : Prop := ∀ z ∈ zs, 0 ≤ z ∧ z < 256
theorem ByteL.tail {z : Int} {zs : List Int} (h : ByteL (z :: zs)) : ByteL zs := fun y hy => h y (List.mem_cons_of_mem _ hy)
theorem ByteL.head {z : Int} {zs : List Int} (h : ByteL (z :: zs)) : 0 ≤ z ∧ z < 256 := h z (by simp)

theorem xor_join (i x y : Nat) (hy : y < 2 ^ i) : 2 ^ i * x ^^^ y = 2 ^ i * x + y := by
  apply Nat.eq_of_testBit_eq
  intro j
  rw [Nat.testBit_xor, Nat.testBit_two_pow_mul, Nat.testBit_two_pow_mul_add _ hy]
  by_cases h : j < i
  · have h' : ¬ i ≤ j := by omega
    simp [h, h']
  · have : y.testBit j = false := Nat.testBit_lt_two_pow (Nat.lt_of_lt_of_le hy (Nat.pow_le_pow_right (by omega) (by omega)))
    simp [h, this]
    omega

/-- A text's bytes as one number, the first byte lowest. -/
def nn : List Int → Nat
  | [] => 0
  | c :: r => 256 * nn r + c.toNat
/-- A sum's bits over a text. -/
def cr : List Int → Nat → Nat
  | [], c => c
  | z :: r, c => cr r (it 8 (c ^^^ z.toNat))
def ones : Nat := 4294967295
/-- The sum of a text. -/
def crc (zs : List Int) : Nat := cr zs ones ^^^ ones

theorem it8_join (c x : Nat) : it 8 (256 * x ^^^ c) = x ^^^ it 8 c := by
  have := it_shift 8 x
  rw [it_xor, show 256 * x = 2 ^ 8 * x from rfl, this]
theorem cr_nn : ∀ (zs : List Int) (c : Nat), ByteL zs → cr zs c = it (8 * zs.length) (c ^^^ nn zs)
  | [], c, _ => by simp [cr, nn, it]
  | z :: r, c, h => by
    have hz := h.head
    rw [cr, cr_nn r _ h.tail]
    simp only [List.length_cons, nn]
    rw [show 8 * (r.length + 1) = 8 + 8 * r.length from by omega, it_add]
    have e : 256 * nn r + z.toNat = 256 * nn r ^^^ z.toNat := (xor_join 8 (nn r) z.toNat (by omega)).symm
    rw [e, show c ^^^ (256 * nn r ^^^ z.toNat) = 256 * nn r ^^^ (c ^^^ z.toNat) from by ac_rfl, it8_join, Nat.xor_comm (nn r)]
theorem cr_append : ∀ (xs ys : List Int) (c : Nat), cr (xs ++ ys) c = cr ys (cr xs c)
  | [], ys, c => rfl
  | x :: xs, ys, c => by rw [List.cons_append, cr, cr_append xs]; rfl
theorem cr_snoc (xs : List Int) (z : Int) (c : Nat) : cr (xs ++ [z]) c = it 8 (cr xs c ^^^ z.toNat) := by rw [cr_append]; rfl
theorem cr_lt : ∀ (zs : List Int) (c : Nat), ByteL zs → c < 4294967296 → cr zs c < 4294967296
  | [], c, _, h => h
  | z :: r, c, hz, h => by
    have := hz.head
    exact cr_lt r _ hz.tail (it_lt 8 _ (Nat.xor_lt_two_pow (n := 32) h (by omega)))
theorem ones_lt : ones < 4294967296 := by decide
theorem crc_lt (zs : List Int) (h : ByteL zs) : crc zs < 4294967296 := Nat.xor_lt_two_pow (n := 32) (cr_lt zs ones h ones_lt) ones_lt
theorem not_xor (a : Nat) (ha : a < 4294967296) : a ^^^ 4294967295 = 4294967295 - a := by
  have h : (BitVec.ofNat 32 a ^^^ BitVec.allOnes 32).toNat = (~~~ BitVec.ofNat 32 a).toNat := by rw [BitVec.xor_allOnes]
  rw [BitVec.toNat_not, BitVec.toNat_xor, BitVec.toNat_allOnes, BitVec.toNat_ofNat, Nat.mod_eq_of_lt (by omega)] at h
  simpa using h
theorem crc_sub (zs : List Int) (h : ByteL zs) : (crc zs : Int) = 4294967295 - (cr zs 4294967295 : Int) := by
  have hl := cr_lt zs ones h ones_lt
  unfold crc
  rw [show ones = 4294967295 from rfl] at *
  rw [not_xor _ hl]; omega

/-- A step by the table. -/
theorem tab_step (c z : Nat) (hz : z < 256) : c / 256 ^^^ it 8 (c % 256 ^^^ z) = it 8 (c ^^^ z) := by
  have e : c = 256 * (c / 256) ^^^ c % 256 := by
    have := xor_join 8 (c / 256) (c % 256) (by omega)
    rw [show (2 : Nat) ^ 8 = 256 from rfl] at this
    rw [this]; omega
  have h := it8_join (c % 256 ^^^ z) (c / 256)
  rw [← Nat.xor_assoc, ← e] at h
  exact h.symm

theorem nn_lt : ∀ (zs : List Int), ByteL zs → nn zs < 2 ^ (8 * zs.length)
  | [], _ => by simp [nn]
  | z :: r, h => by
    have hz := h.head
    have ih := nn_lt r h.tail
    simp only [List.length_cons, nn]
    rw [show 8 * (r.length + 1) = 8 * r.length + 8 from by omega, Nat.pow_add]
    generalize (2 : Nat) ^ (8 * r.length) = p at *
    omega
theorem nn_append : ∀ (xs ys : List Int), nn (xs ++ ys) = 2 ^ (8 * xs.length) * nn ys + nn xs
  | [], ys => by simp [nn]
  | x :: xs, ys => by
    simp only [List.cons_append, nn, nn_append xs ys, List.length_cons]
    rw [show 8 * (xs.length + 1) = 8 + 8 * xs.length from by omega, Nat.pow_add, show (2 : Nat) ^ 8 = 256 from rfl, Nat.mul_add, Nat.mul_assoc]
    omega
theorem nn_inj : ∀ (xs ys : List Int), xs.length = ys.length → ByteL xs → ByteL ys → nn xs = nn ys → xs = ys
  | [], [], _, _, _, _ => rfl
  | [], _ :: _, h, _, _, _ => by simp at h
  | _ :: _, [], h, _, _, _ => by simp at h
  | x :: xs, y :: ys, hl, hx, hy, h => by
    simp only [nn] at h
    have h1 := hx.head
    have h2 := hy.head
    rw [nn_inj xs ys (by simpa using hl) hx.tail hy.tail (by omega), show x = y from by omega]

/-- Four bytes of a number, the lowest first. -/
def le4 (t : Nat) (k : Nat) : List Int := (List.range k).map fun i => ((t / 2 ^ (8 * i) % 256 : Nat) : Int)
theorem le4_succ (t k : Nat) : le4 t (k + 1) = le4 t k ++ [((t / 2 ^ (8 * k) % 256 : Nat) : Int)] := by simp [le4, List.range_succ]
theorem le4_len (t k : Nat) : (le4 t k).length = k := by simp [le4]
theorem le4_range (t k : Nat) : ByteL (le4 t k) := by
  intro z hz
  simp only [le4, List.mem_map] at hz
  obtain ⟨i, _, rfl⟩ := hz
  omega
theorem nn_le4 (t : Nat) (h : t < 4294967296) : nn (le4 t 4) = t := by
  simp only [le4, List.range, List.range.loop, List.map, nn, Int.toNat_natCast]
  simp only [show (2 : Nat) ^ (8 * 0) = 1 from rfl, show (2 : Nat) ^ (8 * 1) = 256 from rfl, show (2 : Nat) ^ (8 * 2) = 65536 from rfl, show (2 : Nat) ^ (8 * 3) = 16777216 from rfl]
  omega
theorem ByteL.append {a b : List Int} (ha : ByteL a) (hb : ByteL b) : ByteL (a ++ b) := cat_range ha hb

/-- A sum over a text and four bytes more. -/
theorem cr_four (xs ys : List Int) (hy : ByteL ys) (hl : ys.length = 4) (c : Nat) : cr (xs ++ ys) c = it 32 (cr xs c ^^^ nn ys) := by
  rw [cr_append, cr_nn ys _ hy, hl]

/-- What Seal answers. -/
def sl (zs : List Int) : List Int := zs ++ le4 (crc zs) 4
theorem sl_len (zs : List Int) : (sl zs).length = zs.length + 4 := by simp [sl, le4_len]
theorem sl_range (zs : List Int) (h : ByteL zs) : ByteL (sl zs) := h.append (le4_range _ _)

/-- SumRest. -/
theorem crc_sealed (zs : List Int) (h : ByteL zs) : crc (sl zs) = crc [0, 0, 0, 0] := by
  have e : cr (sl zs) ones = it 32 ones := by
    rw [sl, cr_four _ _ (le4_range _ _) (le4_len _ _), nn_le4 _ (crc_lt zs h)]
    unfold crc
    rw [← Nat.xor_assoc, Nat.xor_self, Nat.zero_xor]
  have e2 : cr [0, 0, 0, 0] ones = it 32 ones := by
    have := cr_four [] [0, 0, 0, 0] (by intro z hz; simp at hz; omega) rfl ones
    simpa [cr, nn] using this
  unfold crc
  rw [e, e2]
/-- SumLast. -/
theorem crc_last (zs : List Int) (h : ByteL zs) (x y : Nat) (hx : x < 4294967296) (hy : y < 4294967296) : crc (zs ++ le4 x 4) = crc (zs ++ le4 y 4) ↔ x = y := by
  refine ⟨fun e => ?_, fun e => by rw [e]⟩
  unfold crc at e
  rw [cr_four _ _ (le4_range _ _) (le4_len _ _), cr_four _ _ (le4_range _ _) (le4_len _ _), nn_le4 _ hx, nn_le4 _ hy] at e
  have e1 : it 32 (cr zs ones ^^^ x) = it 32 (cr zs ones ^^^ y) := by
    have := congrArg (· ^^^ ones) e
    simpa [Nat.xor_assoc] using this
  have hc := cr_lt zs ones h ones_lt
  have e2 := it_inj 32 _ _ (Nat.xor_lt_two_pow (n := 32) hc hx) (Nat.xor_lt_two_pow (n := 32) hc hy) e1
  have := congrArg (cr zs ones ^^^ ·) e2
  simpa [← Nat.xor_assoc] using this

/-- A sealed text's sum stands behind it. -/
def good (s : List Int) (n : Nat) : Prop := nn (s.drop n) = crc (s.take n)
theorem ByteL.take {s : List Int} (h : ByteL s) (n : Nat) : ByteL (s.take n) := fun z hz => h z (List.mem_of_mem_take hz)
theorem ByteL.drop {s : List Int} (h : ByteL s) (n : Nat) : ByteL (s.drop n) := fun z hz => h z (List.mem_of_mem_drop hz)
theorem good_iff (s : List Int) (n : Nat) (h : ByteL s) (hl : s.length = n + 4) : good s n ↔ it (8 * (n + 4)) (ones ^^^ nn s) = it 32 ones := by
  have e : cr s ones = it 32 (cr (s.take n) ones ^^^ nn (s.drop n)) := by
    have := cr_four (s.take n) (s.drop n) (h.drop n) (by simp; omega) ones
    rwa [List.take_append_drop] at this
  rw [cr_nn s ones h, hl] at e
  rw [e]
  have hc := cr_lt (s.take n) ones (h.take n) ones_lt
  have hd : nn (s.drop n) < 4294967296 := by
    have := nn_lt _ (h.drop n)
    rw [show (s.drop n).length = 4 from by simp; omega] at this
    exact this
  unfold good crc
  constructor
  · intro g; rw [g, ← Nat.xor_assoc, Nat.xor_self, Nat.zero_xor]
  · intro g
    have := it_inj 32 _ _ (Nat.xor_lt_two_pow (n := 32) hc hd) ones_lt g
    have := congrArg (cr (s.take n) ones ^^^ ·) this
    simpa [← Nat.xor_assoc] using this
theorem good_sl (zs : List Int) (h : ByteL zs) : good (sl zs) zs.length := by
  unfold good sl
  rw [List.drop_left, List.take_left, nn_le4 _ (crc_lt zs h)]
/-- Of a text that is good, one that is turned by e is good just if e's steps come to nothing. -/
theorem good_turn (s s' : List Int) (n e : Nat) (h : ByteL s) (h' : ByteL s') (hl : s.length = n + 4) (hl' : s'.length = n + 4) (g : good s n) (he : nn s' = nn s ^^^ e) :
    good s' n ↔ it (8 * (n + 4)) e = 0 := by
  rw [good_iff s' n h' hl', he, ← Nat.xor_assoc, it_xor, (good_iff s n h hl).1 g]
  constructor
  · intro q
    have := congrArg (it 32 ones ^^^ ·) q
    simpa [← Nat.xor_assoc] using this
  · intro q; rw [q, Nat.xor_zero]

/-- Up to three bits. -/
theorem bit_found (m i : Nat) (hi : i < m) : it m (2 ^ i) ≠ 0 := by
  intro h
  have := par_it m (2 ^ i)
  rw [h, par_zero, par_bit _ _ (by omega)] at this
  cases this
theorem three_found (m i j k : Nat) (hi : i < m) (hj : j < m) (hk : k < m) : it m (2 ^ i ^^^ 2 ^ j ^^^ 2 ^ k) ≠ 0 := by
  intro h
  have := par_it m (2 ^ i ^^^ 2 ^ j ^^^ 2 ^ k)
  rw [h, par_zero, par_xor, par_xor, par_bit _ i (by omega), par_bit _ j (by omega), par_bit _ k (by omega)] at this
  cases this
theorem two_lt (m i j : Nat) (hi : i < j) (hj : j < m) (hm : m ≤ 32768) : it m (2 ^ i ^^^ 2 ^ j) ≠ 0 := by
  intro h
  rw [it_xor] at h
  have h1 := it_far m i 1 (by omega)
  have h2 := it_far m j 1 (by omega)
  rw [Nat.mul_one] at h1 h2
  have h := xor_eq_zero h
  rw [h1, h2, show m - i = j - i + (m - j) from by omega, it_add] at h
  exact order (j - i) (by omega) (by omega) (it_inj (m - j) _ _ (it_lt _ _ (by decide)) (by decide) h)
theorem two_found (m i j : Nat) (hi : i < m) (hj : j < m) (hm : m ≤ 32768) (hne : i ≠ j) : it m (2 ^ i ^^^ 2 ^ j) ≠ 0 := by
  rcases Nat.lt_or_ge i j with h | h
  · exact two_lt m i j h hj hm
  · rw [Nat.xor_comm]; exact two_lt m j i (by omega) hi hm
/-- Bits within 32 in a row. -/
theorem burst_found (m k e : Nat) (hk : k ≤ m) (he : e < 4294967296) (h0 : e ≠ 0) : it m (2 ^ k * e) ≠ 0 := by
  rw [it_far m k e hk]
  exact fun h => h0 (it_ne _ _ he h)

/-- A text with the bit at p turned. -/
def flip (s : List Int) (p : Nat) : List Int := s.set (p / 8) (((s.getD (p / 8) 0).toNat ^^^ 2 ^ (p % 8) : Nat) : Int)
theorem flip_len (s : List Int) (p : Nat) : (flip s p).length = s.length := by simp [flip]
theorem flip_range (s : List Int) (p : Nat) (h : ByteL s) : ByteL (flip s p) := by
  intro z hz
  rcases List.mem_or_eq_of_mem_set hz with hz | rfl
  · exact h z hz
  · have h1 := range_of h (p / 8)
    have h2 : (2 : Nat) ^ (p % 8) < 2 ^ 8 := Nat.pow_lt_pow_right (by omega) (by omega)
    have := Nat.xor_lt_two_pow (n := 8) (x := (s.getD (p / 8) 0).toNat) (y := 2 ^ (p % 8)) (by omega) h2
    omega
theorem nn_flip : ∀ (s : List Int) (p : Nat), ByteL s → p < 8 * s.length → nn (flip s p) = nn s ^^^ 2 ^ p
  | [], p, _, hp => by simp at hp
  | z :: r, p, h, hp => by
    have hz := h.head
    simp only [List.length_cons] at hp
    by_cases h8 : p < 8
    · have e1 : p / 8 = 0 := by omega
      have e2 : p % 8 = p := by omega
      have h2 : (2 : Nat) ^ p < 2 ^ 8 := Nat.pow_lt_pow_right (by omega) (by omega)
      have h3 := Nat.xor_lt_two_pow (n := 8) (x := z.toNat) (y := 2 ^ p) (by omega) h2
      simp only [flip, e1, e2, List.set_cons_zero, nn, List.getD_cons_zero, Int.toNat_natCast]
      have a1 := xor_join 8 (nn r) z.toNat (by omega)
      have a2 := xor_join 8 (nn r) (z.toNat ^^^ 2 ^ p) h3
      rw [show (2 : Nat) ^ 8 = 256 from rfl] at a1 a2
      rw [← a1, ← a2, Nat.xor_assoc]
    · obtain ⟨q, rfl⟩ : ∃ q, p = q + 8 := ⟨p - 8, by omega⟩
      have ih := nn_flip r q h.tail (by omega)
      have e1 : (q + 8) / 8 = q / 8 + 1 := by omega
      have e2 : (q + 8) % 8 = q % 8 := by omega
      have ef : flip (z :: r) (q + 8) = z :: flip r q := by
        simp only [flip, e1, e2, List.set_cons_succ, List.getD_cons_succ]
      rw [ef]
      simp only [nn, ih]
      have a1 := xor_join 8 (nn r) z.toNat (by omega)
      have a2 := xor_join 8 (nn r ^^^ 2 ^ q) z.toNat (by omega)
      rw [show (2 : Nat) ^ 8 = 256 from rfl] at a1 a2
      have a3 : 256 * (nn r ^^^ 2 ^ q) = 256 * nn r ^^^ 2 ^ (q + 8) := by
        rw [Nat.pow_add, show (2 : Nat) ^ 8 = 256 from rfl, Nat.mul_comm (2 ^ q)]
        have := Nat.shiftLeft_xor_distrib (a := nn r) (b := 2 ^ q) (i := 8)
        simpa [Nat.shiftLeft_eq, Nat.mul_comm] using this
      rw [← a1, ← a2, a3, Nat.xor_assoc, Nat.xor_assoc, Nat.xor_comm (2 ^ (q + 8))]

/-- SumParts: sums of texts of one length lie over each other as the texts do. -/
theorem nn_xor3 : ∀ (a b c d : List Int), a.length = d.length → b.length = d.length → c.length = d.length → ByteL a → ByteL b → ByteL c → ByteL d →
    (∀ i, i < d.length → (d.getD i 0).toNat = (a.getD i 0).toNat ^^^ (b.getD i 0).toNat ^^^ (c.getD i 0).toNat) → nn d = nn a ^^^ nn b ^^^ nn c
  | [], [], [], [], _, _, _, _, _, _, _, _ => by simp [nn]
  | x :: a, y :: b, z :: c, u :: d, h1, h2, h3, ha, hb, hc, hd, h => by
    simp only [List.length_cons] at h1 h2 h3 h
    have ih := nn_xor3 a b c d (by omega) (by omega) (by omega) ha.tail hb.tail hc.tail hd.tail (fun i hi => by have := h (i + 1) (by omega); simpa using this)
    have h0 : u.toNat = x.toNat ^^^ y.toNat ^^^ z.toNat := by have := h 0 (by omega); simpa using this
    have hx := ha.head
    have hy := hb.head
    have hz := hc.head
    have hu := hd.head
    have a1 := xor_join 8 (nn a) x.toNat (by omega)
    have a2 := xor_join 8 (nn b) y.toNat (by omega)
    have a3 := xor_join 8 (nn c) z.toNat (by omega)
    have a4 := xor_join 8 (nn a ^^^ nn b ^^^ nn c) u.toNat (by omega)
    have a5 : 2 ^ 8 * (nn a ^^^ nn b ^^^ nn c) = 2 ^ 8 * nn a ^^^ 2 ^ 8 * nn b ^^^ 2 ^ 8 * nn c := by
      have p := Nat.shiftLeft_xor_distrib (a := nn a ^^^ nn b) (b := nn c) (i := 8)
      have q := Nat.shiftLeft_xor_distrib (a := nn a) (b := nn b) (i := 8)
      rw [q] at p
      simpa [Nat.shiftLeft_eq, Nat.mul_comm] using p
    simp only [show (2 : Nat) ^ 8 = 256 from rfl] at a1 a2 a3 a4 a5
    simp only [nn, ih]
    rw [← a1, ← a2, ← a3, ← a4, a5, h0]
    ac_rfl
  | [], [], _ :: _, [], _, _, h, _, _, _, _, _ => by simp at h
  | [], _ :: _, _, [], _, h, _, _, _, _, _, _ => by simp at h
  | _ :: _, _, _, [], h, _, _, _, _, _, _, _ => by simp at h
  | [], _, _, _ :: _, h, _, _, _, _, _, _, _ => by simp at h
  | _ :: _, [], _, _ :: _, _, h, _, _, _, _, _, _ => by simp at h
  | _ :: _, _ :: _, [], _ :: _, _, _, h, _, _, _, _, _ => by simp at h
theorem crc_xor3 (a b c d : List Int) (h1 : a.length = d.length) (h2 : b.length = d.length) (h3 : c.length = d.length) (ha : ByteL a) (hb : ByteL b) (hc : ByteL c) (hd : ByteL d)
    (h : ∀ i, i < d.length → (d.getD i 0).toNat = (a.getD i 0).toNat ^^^ (b.getD i 0).toNat ^^^ (c.getD i 0).toNat) : crc a ^^^ crc b ^^^ crc c ^^^ crc d = 0 := by
  have e := nn_xor3 a b c d h1 h2 h3 ha hb hc hd h
  unfold crc
  rw [cr_nn a _ ha, cr_nn b _ hb, cr_nn c _ hc, cr_nn d _ hd, h1, h2, h3, e]
  have e2 : ∀ m A B C : Nat, it m (ones ^^^ A) ^^^ ones ^^^ (it m (ones ^^^ B) ^^^ ones) ^^^ (it m (ones ^^^ C) ^^^ ones) ^^^ (it m (ones ^^^ (A ^^^ B ^^^ C)) ^^^ ones) = 0 := by
    intro m A B C
    simp only [it_xor]
    have : ∀ o p q r s : Nat, (o ^^^ p) ^^^ s ^^^ ((o ^^^ q) ^^^ s) ^^^ ((o ^^^ r) ^^^ s) ^^^ ((o ^^^ (p ^^^ q ^^^ r)) ^^^ s) = 0 := by
      intro o p q r s
      apply Nat.eq_of_testBit_eq
      intro i
      simp only [Nat.testBit_xor, Nat.zero_testBit]
      cases o.testBit i <;> cases p.testBit i <;> cases q.testBit i <;> cases r.testBit i <;> cases s.testBit i <;> rfl
    exact this _ _ _ _ _
  exact e2 _ _ _ _

end Go.Proofs.YtcahlmneancapaaGreatDoor.Clep

/- What sum.byteChange, sum.grow and sum.Of do when called (walks over the translated program): for any bytes. No conditions but the kinds' own bounds. -/
namespace Go.Proofs.YtcahlmneancapaaGreatDoor.Clep
open Go.RowKit
set_option linter.unusedVariables false
set_option maxRecDepth 10000

theorem u32_low (C : Nat) (h : C < 4294967296) : bits BinOp.and IntKind.u32 (C : Int) 1 = ((C % 2 : Nat) : Int) := by
  rw [show (1 : Int) = ((1 : Nat) : Int) from rfl, u32_and_nat C 1 h (by omega), Nat.and_one_is_mod]
theorem u32_stp (C : Nat) (h : C < 4294967296) : bits BinOp.xor IntKind.u32 ((C : Int) / 2) (bits BinOp.and IntKind.u32 (C : Int) 1 * 2197175160 % 4294967296) = ((stp C : Nat) : Int) := by
  rw [u32_low C h]
  have h2 : C % 2 < 2 := Nat.mod_lt _ (by omega)
  rw [show ((C % 2 : Nat) : Int) * 2197175160 % 4294967296 = ((C % 2 * 2197175160 : Nat) : Int) from by omega, show (C : Int) / 2 = ((C / 2 : Nat) : Int) from by omega, u32_xor_nat _ _ (by omega) (by omega)]
  rfl

theorem bytechange_any (z : Int) (w : World) (hc : 0 ≤ z ∧ z < 256) :
    Calls Tryz.prog 194 #[.int .u8 z] w fun e w' => e = .returned (.int .u32 (it 8 z.toNat : Nat)) ∧ w' = w := by
  obtain ⟨c, rfl⟩ := Int.eq_ofNat_of_zero_le hc.1
  have hc' : c < 256 := by omega
  rw [show ((c : Int)).toNat = c from rfl]
  go_enter Tryz.func194, Tryz.ntmps194
  go_wp2
  go_loop [3, 6] (fun v i => ∃ k C : Nat, k ≤ 8 ∧ i = .int .i64 k ∧ v = .int .u32 C ∧ C < 4294967296 ∧ Hid (it (8 - k) C = it 8 c)) (fun _ i => 8 - (intOf i).toNat)
  case atStart => exact ⟨0, c, by omega, rfl, by go_num, by omega, hide rfl⟩
  case round =>
    obtain ⟨k, C, hk, rfl, rfl, hC, hT⟩ := hrel
    by_cases hlt : k < 8
    · have hl := hide (u32_stp C hC)
      have hst := hide (stp_lt C hC)
      have hT' := hide (show it (8 - (k + 1)) (stp C) = it 8 c by rw [← hT.out, show 8 - k = 8 - (k + 1) + 1 from by omega, it])
      go_wp2
      go_round
      case rel => exact ⟨k + 1, stp C, by omega, by go_num, by rw [← hl.out], hst.out, hT'⟩
      case measure => simp [intOf]; omega
    · have h8 : k = 8 := by omega
      subst h8
      have hT' := hide (show C = it 8 c from hT.out)
      go_wp2
      go_ret
      exact ⟨by rw [← hT'.out]; rfl, rfl⟩

theorem tab_int (C : Nat) (z : Int) (hC : C < 4294967296) (hz : 0 ≤ z ∧ z < 256) :
    bits BinOp.xor IntKind.u8 ((C : Int) % 256) z = ((C % 256 ^^^ z.toNat : Nat) : Int) := by
  obtain ⟨Z, rfl⟩ := Int.eq_ofNat_of_zero_le hz.1
  have h : C % 256 ^^^ Z < 2 ^ 8 := Nat.xor_lt_two_pow (n := 8) (by omega) (by omega)
  rw [show (C : Int) % 256 = ((C % 256 : Nat) : Int) from by omega, u8_xor_nat _ _ (by omega) (by omega)]
  simp only [Int.toNat_natCast]
theorem tab_int2 (C : Nat) (z : Nat) (hC : C < 4294967296) (hz : z < 256) :
    bits BinOp.xor IntKind.u32 ((C : Int) / 256) ((it 8 (C % 256 ^^^ z) : Nat) : Int) = ((it 8 (C ^^^ z) : Nat) : Int) := by
  have h : C % 256 ^^^ z < 2 ^ 8 := Nat.xor_lt_two_pow (n := 8) (by omega) hz
  rw [show (C : Int) / 256 = ((C / 256 : Nat) : Int) from by omega, u32_xor_nat _ _ (by omega) (it_lt 8 _ (by omega)), tab_step C z hz]

theorem cr_at (zs : List Int) (k C : Nat) (h : k < zs.length) : cr (zs.drop k) C = cr (zs.drop (k + 1)) (it 8 (C ^^^ (zs.getD k 0).toNat)) := by
  rw [drop_get zs k h]; rfl

theorem sgrow_any (c : Nat) (ao : Option Addr) (len cap : Nat) (zs : List Int) (w : World) (hc : c < 4294967296) (hm : len ≤ 9223372036854775807) (h : Bs w ao len cap zs) :
    Calls Tryz.prog 168 #[.int .u32 c, .slice ao len cap] w fun e w' => e = .returned (.int .u32 (cr zs c : Nat)) ∧ w' = w := by
  have hz := hide h.2.2.1
  have hl := hide h.1
  have hc4 := hide h.2.2.2
  clear h
  go_enter Tryz.func168, Tryz.ntmps168
  go_wp2
  go_loop [0, 9] (fun v i => ∃ k C : Nat, k ≤ len ∧ i = .int .i64 k ∧ v = .int .u32 C ∧ C < 4294967296 ∧ Hid (cr (zs.drop k) C = cr zs c)) (fun _ i => len - (intOf i).toNat)
  case atStart => exact ⟨0, c, by omega, rfl, rfl, hc, hide (by simp)⟩
  case round =>
    obtain ⟨k, C, hk, rfl, rfl, hC, hT⟩ := hrel
    by_cases hlt : k < len
    · obtain ⟨b, off, rfl, hcell⟩ := hc4.out (by omega)
      have hck := hcell k hlt
      have hzk := hz.out k
      have HT := hide (show cr (zs.drop (k + 1)) (it 8 (C ^^^ (zs.getD k 0).toNat)) = cr zs c by rw [← hT.out]; exact (cr_at zs k C (by rw [hl.out]; exact hlt)).symm)
      have HX := hide (tab_int C (zs.getD k 0) hC hzk)
      have hx8 : C % 256 ^^^ (zs.getD k 0).toNat < 2 ^ 8 := Nat.xor_lt_two_pow (n := 8) (by omega) (by omega)
      have HY := hide (tab_int2 C (zs.getD k 0).toNat hC (by omega))
      have HL := hide (it_lt 8 (C ^^^ (zs.getD k 0).toNat) (Nat.xor_lt_two_pow (n := 32) hC (by omega)))
      have HC := hide (fun w => bytechange_any ((C % 256 ^^^ (zs.getD k 0).toNat : Nat) : Int) w (by omega))
      generalize zs.getD k 0 = z at *
      generalize hX : (C % 256 ^^^ z.toNat) = X at *
      clear hcell
      go_wp2_with fail
      rw [HX.out]
      refine (HC.out _).mono ?_
      rintro e w1 ⟨rfl, rfl⟩
      go_wp2
      go_round
      case rel => exact ⟨k + 1, _, by omega, by go_num, by rw [← HY.out], HL.out, HT⟩
      case measure => simp [intOf]; omega
    · have h8 : k = len := by omega
      subst h8
      have hT' := hide (show C = cr zs c from by have := hT.out; rwa [List.drop_eq_nil_of_le (by rw [hl.out]; exact Nat.le_refl _)] at this)
      go_wp2
      go_ret
      exact ⟨by rw [← hT'.out]; rfl, rfl⟩

theorem not_int (C : Nat) (hC : C < 4294967296) : bits BinOp.xor IntKind.u32 IntKind.u32.max (C : Int) = 4294967295 - (C : Int) := by
  rw [show IntKind.u32.max = ((4294967295 : Nat) : Int) from rfl, u32_xor_nat _ _ (by omega) hC, Nat.xor_comm, not_xor C hC]; omega
theorem of_any (ao : Option Addr) (len cap : Nat) (zs : List Int) (w : World) (hm : len ≤ 9223372036854775807) (h : Bs w ao len cap zs) :
    Calls Tryz.prog 132 #[.slice ao len cap] w fun e w' => e = .returned (.int .u32 (crc zs : Nat)) ∧ w' = w := by
  have hb : ByteL zs := bs_range h
  have hl := cr_lt zs 4294967295 hb (by decide)
  have hs := hide (crc_sub zs hb)
  have H := hide h
  clear h hb
  go_enter Tryz.func132, Tryz.ntmps132
  go_wp2_with fail
  refine (sgrow_any 4294967295 ao len cap zs w (by omega) hm H.out).mono ?_
  rintro e w1 ⟨rfl, rfl⟩
  generalize cr zs 4294967295 = C at *
  go_wp2
  go_ret
  exact ⟨by rw [hs.out, ← not_int C hl]; rfl, rfl⟩

end Go.Proofs.YtcahlmneancapaaGreatDoor.Clep

/- What sum.Seal, sum.told and sum.Open do when called (walks over the translated program): for any bytes of at most 2^46. -/
namespace Go.Proofs.YtcahlmneancapaaGreatDoor.Clep
open Go.RowKit
set_option linter.unusedVariables false
set_option maxRecDepth 10000

set_option maxHeartbeats 400000 in
theorem seal_any (ao : Option Addr) (len cap : Nat) (zs : List Int) (w : World) (hm : len ≤ 70368744177664) (h : Bs w ao len cap zs) :
    Calls Tryz.prog 105 #[.slice ao len cap] w fun e w' => ∃ v, e = .returned v ∧ Own w' w.heap.size v (sl zs) ∧ Below w.heap.size w w' := by
  obtain ⟨i0, hi, hz0, hz1, hz2⟩ := info_parts info5
  have hcs := hide (bs_cells h)
  have hnl := hide h.2.1.2
  have hzl := hide h.1
  have hC := crc_lt zs (bs_range h)
  have H := hide h
  clear h
  go_enter Tryz.func105, Tryz.ntmps105
  go_wp2_with (first
    | (at_make; refine wpList_make_own _ rfl _ _ 44 rfl w.heap.size 5 i0 (.int .u8 0) 1 Tryz.underlying44 hi hz0 hz1 .i64 .i64 _ (len + 4) rfl rfl ?c1 ?c2 ?c3 ?c4 ?_)
    | fail)
  case c1 => omega
  case c2 => rw [hz2]; omega
  case c3 => unfold maxLen; omega
  case c4 => exact Nat.le_refl _
  intro w1 hown hg
  have hb1 : Hid (Below w.heap.size w w1) := hide ((Below.refl _ _).grown hg (Nat.le_refl _) (fun k hk => by cases hk))
  have HG := hide hg
  clear hg
  go_wp2_with (first
    | (at_builtin; refine wpList_append_fits_any _ rfl (.tmp 10) (.tmp 11) 44 rfl w.heap.size 5 i0 1 Tryz.underlying44 hi hz1 w.heap.size 0 (len + 4) [] rfl hown ao len cap (bv zs) rfl ?d1 ?d2 ?d3 ?d4 ?d5 ?_)
    | fail)
  case d1 => rw [bv_len, hzl.out]; omega
  case d2 => exact hnl.out
  case d3 =>
    intro ad had j u hu
    exact HG.out.cell (hcs.out ad had j u hu) (by intro h; cases h)
  case d4 => exact bv_one zs
  case d5 => omega
  intro w2 hown2 hg2
  have hb2 := hide (hb1.out.grown hg2 hb1.out.size (fun k hk => by cases hk; exact Nat.le_refl _))
  have HO := hide (show Own w2 w.heap.size (.slice (some ⟨w.heap.size, 0, none⟩) (0 + len) (len + 4)) zs by
    unfold Own; rw [hzl.out]; simpa using hown2)
  clear hg2 hown2 hown
  go_wp2_with fail
  refine (of_any ao len cap zs w2 (by omega) (H.out.below hb2.out (Nat.le_refl _))).mono ?_
  rintro e w3 ⟨rfl, rfl⟩
  have HS := hide (show sl zs = zs ++ le4 (crc zs) 4 from rfl)
  generalize hcc : crc zs = C at *
  clear hcc
  go_wp2_with fail
  go_loopw [3, 15] (fun u i wr => ∃ k : Nat, k ≤ 4 ∧ i = .int .i64 k ∧ Hid (Own wr w.heap.size u (zs ++ le4 C k)) ∧ Hid (Below w.heap.size w wr)) (fun _ i _ => 4 - (intOf i).toNat)
  case atStart => exact ⟨0, by omega, rfl, hide (by simpa [le4] using HO.out), hb2⟩
  case round =>
    obtain ⟨k, hk, rfl, hown, hbel⟩ := hrel
    have hsz := hide hbel.out.size
    have hll : (zs ++ le4 C k).length = len + k := by rw [List.length_append, hzl.out, le4_len]
    by_cases hlt : k < 4
    · go_wp2_with (first
        | (at_builtin; refine wpList_append_own _ rfl (.tmp 18) (.tmp 24) 44 rfl w.heap.size 5 i0 (.int .u8 0) 1 1 Tryz.underlying44 hi hz0 hz1 hz2 rfl (by decide) _ _ _ rfl (hown.out.alloc _) ⟨wr.heap.size, 0, none⟩ 1 1 [.int .u8 ((C : Int) / 2 ^ (8 * k) % 256)] rfl rfl ?c1 ?c2 ?c3 ?c4 ?c5 ?_)
        | fail)
      case c1 => exact cell_one_new _ _ _
      case c2 => intro u hu; simp at hu; subst hu; rfl
      case c3 => unfold maxLen; omega
      case c4 => omega
      case c5 => have := hsz.out; simp; omega
      intro v' w2 hown' hgrow _
      have HW := hide hown'
      have HW2 := hide hgrow
      clear hown' hgrow
      go_wp2
      go_roundw
      case rel => exact ⟨k + 1, by omega, by go_num, hide (by rw [le4_succ, ← List.append_assoc]; exact own_snoc (by rw [hll]; exact (show w2.ownsRow w.heap.size 5 1 v' (len + k + 1) (bv (zs ++ le4 C k) ++ [Value.int IntKind.u8 ((C : Int) / 2 ^ (8 * k) % 256)]) from HW.out))), hide (below_step hbel.out hsz.out hown.out HW2.out)⟩
      case measure => simp [intOf]; omega
    · have h8 : k = 4 := by omega
      subst h8
      go_wp2
      go_ret
      exact ⟨_, rfl, by rw [HS.out]; exact hown.out, hbel.out⟩

theorem nn_take (zs : List Int) (k : Nat) (h : k < zs.length) : nn (zs.take (k + 1)) = 2 ^ (8 * k) * (zs.getD k 0).toNat + nn (zs.take k) := by
  rw [List.take_succ_eq_append_getElem h, nn_append]
  simp only [nn, List.length_take, Nat.min_eq_left (Nat.le_of_lt h), List.getD, List.getElem?_eq_getElem h, Option.getD_some]
  simp
theorem told_bits (N k : Nat) (z : Int) (hk : k < 4) (hN : N < 2 ^ (8 * k)) (hz : 0 ≤ z ∧ z < 256) :
    bits BinOp.or IntKind.u32 (N : Int) (z * 2 ^ (8 * k) % 4294967296) = ((2 ^ (8 * k) * z.toNat + N : Nat) : Int) := by
  obtain ⟨Z, rfl⟩ := Int.eq_ofNat_of_zero_le hz.1
  have hp : (2 : Nat) ^ (8 * k) ≤ 2 ^ 24 := Nat.pow_le_pow_right (by omega) (by omega)
  have hd : Z * 2 ^ (8 * k) ≤ 255 * 2 ^ 24 := Nat.mul_le_mul (by omega) hp
  rw [show (Z : Int) * 2 ^ (8 * k) = ((Z * 2 ^ (8 * k) : Nat) : Int) from by push_cast; rfl]
  rw [show ((Z * 2 ^ (8 * k) : Nat) : Int) % 4294967296 = ((Z * 2 ^ (8 * k) : Nat) : Int) from by omega, u32_or_nat _ _ (by omega) (by omega), Nat.or_comm, nat_join (8 * k) _ _ (Nat.mul_mod_left _ _) hN]
  simp only [Int.toNat_natCast]
  rw [Nat.mul_comm]

theorem told_any (ao : Option Addr) (len cap : Nat) (zs : List Int) (w : World) (hm : len ≤ 4) (h : Bs w ao len cap zs) :
    Calls Tryz.prog 173 #[.slice ao len cap] w fun e w' => e = .returned (.int .u32 (nn zs : Nat)) ∧ w' = w := by
  have hz := hide h.2.2.1
  have hr := hide (bs_range h)
  have hl := hide h.1
  have hc4 := hide h.2.2.2
  clear h
  go_enter Tryz.func173, Tryz.ntmps173
  go_wp2
  go_loop [3, 8] (fun v i => ∃ k C : Nat, k ≤ len ∧ i = .int .i64 k ∧ v = .int .u32 C ∧ Hid (C = nn (zs.take k))) (fun _ i => len - (intOf i).toNat)
  case atStart => exact ⟨0, 0, by omega, rfl, rfl, hide (by simp [nn])⟩
  case round =>
    obtain ⟨k, C, hk, rfl, rfl, hT⟩ := hrel
    by_cases hlt : k < len
    · obtain ⟨b, off, rfl, hcell⟩ := hc4.out (by omega)
      have hck := hcell k hlt
      have hzk := hz.out k
      have hC : C < 2 ^ (8 * k) := by
        have := nn_lt (zs.take k) (ByteL.take hr.out k)
        rwa [← hT.out, List.length_take, Nat.min_eq_left (by rw [hl.out]; omega)] at this
      have hC2 : C < 4294967296 := Nat.lt_of_lt_of_le hC (show 2 ^ (8 * k) ≤ 2 ^ 32 from Nat.pow_le_pow_right (by omega) (by omega))
      have HB := hide (told_bits C k (zs.getD k 0) (by omega) hC hzk)
      have HN := hide (show (2 ^ (8 * k) * (zs.getD k 0).toNat + C : Nat) = nn (zs.take (k + 1)) by rw [nn_take zs k (by rw [hl.out]; exact hlt), ← hT.out])
      generalize zs.getD k 0 = z at *
      clear hcell hC
      go_wp2
      go_round
      case rel => exact ⟨k + 1, _, by omega, by go_num, by rw [← HB.out], HN⟩
      case measure => simp [intOf]; omega
    · have h8 : k = len := by omega
      subst h8
      have hT' := hide (show C = nn zs from by have := hT.out; rwa [List.take_of_length_le (by rw [hl.out]; exact Nat.le_refl _)] at this)
      go_wp2
      go_ret
      exact ⟨by rw [← hT'.out]; rfl, rfl⟩

theorem Bs.takeAt {w : World} {b off len cap : Nat} {zs : List Int} (h : Bs w (some ⟨b, off, none⟩) len cap zs) (k : Nat) (hk : k ≤ len) : Bs w (some ⟨b, off, none⟩) k cap (zs.take k) := h.take k hk (by simp)

theorem open_short (ao : Option Addr) (len cap : Nat) (w : World) (hm : len < 4) :
    Calls Tryz.prog 139 #[.slice ao len cap] w fun e w' => e = .returned (.tuple #[.slice none 0 0, .int .i64 4]) ∧ w' = w := by
  go_enter Tryz.func139, Tryz.ntmps139
  go_wp2
  go_ret2
  exact ⟨rfl, rfl⟩

set_option maxHeartbeats 400000 in
theorem open_long (b off len cap : Nat) (zs : List Int) (w : World) (n : Nat) (hn : len = n + 4) (hm : len ≤ 70368744177664) (h : Bs w (some ⟨b, off, none⟩) len cap zs) :
    Calls Tryz.prog 139 #[.slice (some ⟨b, off, none⟩) len cap] w fun e w' => Below w.heap.size w w' ∧
      ((good zs n ∧ ∃ v, e = .returned (.tuple #[v, .int .i64 0]) ∧ Own w' w.heap.size v (zs.take n)) ∨ (¬ good zs n ∧ e = .returned (.tuple #[.slice none 0 0, .int .i64 5]))) := by
  obtain ⟨i0, hi, hz0, hz1, hz2⟩ := info_parts info5
  have hcap := h.2.1.1
  have hgd : good zs n ↔ nn (zs.drop n) = crc (zs.take n) := Iff.rfl
  have HG := hide hgd
  clear hgd
  have ht : ∀ p : Kp w, Bs p.W (some ⟨b, off, none⟩) n cap (zs.take n) := fun p => (h.takeAt n (by omega)).below p.h (Nat.le_refl _)
  have cO : Hid (∀ p : Kp w, Calls Tryz.prog 132 #[.slice (some ⟨b, off, none⟩) n cap] p.W fun e w'' => e = .returned (.int .u32 (crc (zs.take n) : Nat)) ∧ ∃ q : Kp w, w'' = q.W) := hide fun p => kp_same (of_any _ n cap (zs.take n) p.W (by omega) (ht p))
  have cT : Hid (∀ p : Kp w, Calls Tryz.prog 173 #[.slice (some ⟨b, off + n, none⟩) 4 (cap - n)] p.W fun e w'' => e = .returned (.int .u32 (nn (zs.drop n) : Nat)) ∧ ∃ q : Kp w, w'' = q.W) := hide fun p => kp_same
    (told_any _ 4 (cap - n) (zs.drop n) p.W (by omega) (by have := (h.below p.h (Nat.le_refl _)).dropAt n (by omega); rwa [show len - n = 4 from by omega] at this))
  have hcs := hide (fun (p : Kp w) => bs_cells (ht p))
  have hlen : (zs.take n).length = n := by rw [List.length_take, h.1]; omega
  have HL := hide hlen
  have hne : Nonempty (Kp w) := ⟨⟨w, Below.refl _ _⟩⟩
  generalize zs.take n = ys at *
  generalize nn (zs.drop n) = A at *
  generalize crc ys = C at *
  clear h ht hlen
  go_enter Tryz.func139, Tryz.ntmps139
  go_wp2_with fail
  refine wp_region_kept (by kernel_rfl) (by kernel_rfl) ?_
  repeat (first
    | go_big_quiet_step (first | (go_at_call 173; exact cT.out _) | (go_at_call 132; exact cO.out _))
    | fail)
  refine wpQuiet_nil ?_
  intro w1 hw'
  have HB : Hid (Below w.heap.size w w1) := by
    obtain ⟨⟨w3', hb3⟩, hw''⟩ := hw'
    rw [hw'']; exact hb3
  have HK := hide (hcs.out ⟨w1, HB.out⟩)
  clear hw' hne cT cO hcs
  by_cases hg : A = C
  · have hb : ((A : Int) == (C : Int)) = true := by simp [hg]
    have HG2 := hide (HG.out.2 hg)
    clear hg HG
    go_wp2_with (first
      | (at_builtin; refine wpList_append_own _ rfl _ _ 44 rfl w.heap.size 5 i0 (.int .u8 0) 1 1 Tryz.underlying44 hi hz0 hz1 hz2 rfl (by decide) _ _ _ rfl (World.ownsRow_nil _ _ _ _) ⟨b, off, none⟩ n cap (bv ys) rfl ?c0 ?c1 ?c2 ?c3 ?c4 ?c5 ?_)
      | fail)
    case c0 => rw [bv_len, HL.out]
    case c1 => intro j u hu; have := HK.out _ rfl j u hu; rwa [add_plain] at this
    case c2 => exact bv_one ys
    case c3 => unfold maxLen; omega
    case c4 => omega
    case c5 => exact HB.out.size
    intro v' w2 hown' hgrow _
    have HW := hide hown'
    have HW2 := hide (HB.out.grown hgrow HB.out.size (fun k hk => by cases hk))
    clear hown' hgrow
    go_wp2
    go_ret2
    refine ⟨HW2.out, .inl ⟨HG2.out, v', rfl, ?_⟩⟩
    have := HW.out
    unfold Own
    rw [HL.out]
    simpa using this
  · have hb : ((A : Int) == (C : Int)) = false := by simp; omega
    have HG2 := hide (fun h => hg (HG.out.1 h))
    clear hg HG
    go_wp2
    go_ret2
    exact ⟨HB.out, .inr ⟨HG2.out, rfl⟩⟩

end Go.Proofs.YtcahlmneancapaaGreatDoor.Clep
