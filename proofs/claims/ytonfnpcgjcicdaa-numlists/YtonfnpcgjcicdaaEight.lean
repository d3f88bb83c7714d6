/- What num.Eight and num.Uneight do when called (walks over the translated program): for any bytes of at most 2^46, any number. -/
import Derived.Test.YtonfnpcgjcicdaaAwake
import Derived.Test.YtonfnpcgjcicdaaMore
namespace Go.Proofs.Ytonfnpcgjcicdaa.Clep
open Go.RowKit
set_option linter.unusedVariables false

def e8b (n : Int) (k : Nat) : Int := n / 2 ^ (8 * (7 - k)) % 256
def e8 (n : Int) (k : Nat) : List Int := (List.range k).map (e8b n)
theorem e8_succ (n : Int) (k : Nat) : e8 n (k + 1) = e8 n k ++ [e8b n k] := by simp [e8, List.range_succ]
theorem e8_len (n : Int) (k : Nat) : (e8 n k).length = k := by simp [e8]

set_option maxHeartbeats 400000 in
theorem eight_any (ao : Option Addr) (len cap : Nat) (zs : List Int) (w : World) (n : Int) (h0 : 0 ≤ n) (h1 : n ≤ 18446744073709551615) (hm : len ≤ 70368744177664) (h : Bs w ao len cap zs) :
    Calls Try.prog 14 #[.slice ao len cap, .int .u64 n] w fun e w' => ∃ v, e = .returned v ∧ Own w' w.heap.size v (zs ++ e8 n 8) ∧ Below w.heap.size w w' := by
  obtain ⟨i0, hi, hz0, hz1, hz2⟩ := info_parts info5
  have hzl := hide h.1
  have H := hide h
  clear h
  go_enter Try.func14, Try.ntmps14
  go_wp2_with fail
  refine (room_any ao len cap zs w 8 (by omega) (by omega) hm H.out).mono ?_
  rintro e w1 ⟨v, rfl, ho, hb⟩
  have HO := hide ho
  have HB := hide hb
  clear ho hb
  go_wp2_with fail
  go_loopw [5, 9] (fun u i wr => ∃ k : Nat, k ≤ 8 ∧ i = .int .i64 k ∧ Hid (Own wr w.heap.size u (zs ++ e8 n k)) ∧ Hid (Below w.heap.size w wr)) (fun _ i _ => 8 - (intOf i).toNat)
  case atStart => exact ⟨0, by omega, rfl, hide (by simpa [e8] using HO.out), HB⟩
  case round =>
    obtain ⟨k, hk, rfl, hown, hbel⟩ := hrel
    have hsz := hide hbel.out.size
    have hll : (zs ++ e8 n k).length = len + k := by rw [List.length_append, hzl.out, e8_len]
    by_cases hlt : k < 8
    · go_wp2_with (first
        | (at_builtin; refine wpList_append_own _ rfl (.tmp 12) (.tmp 19) 23 rfl w.heap.size 5 i0 (.int .u8 0) 1 1 Try.underlying23 hi hz0 hz1 hz2 rfl (by decide) _ _ _ rfl (hown.out.alloc _) ⟨wr.heap.size, 0, none⟩ 1 1 [.int .u8 (n / 2 ^ (8 * (7 - k)) % 256)] rfl rfl ?c1 ?c2 ?c3 ?c4 ?c5 ?_)
        | fail)
      case c1 => exact cell_one_new _ _ _
      case c2 => intro u hu; simp at hu; subst hu; rfl
      case c3 => unfold maxLen; omega
      case c4 => omega
      case c5 => have := hsz.out; simp; omega
      intro v' w2 hown' hgrow _
      have HW := hide hown'
      have HW2 := hide hgrow
      clear hown' hgrow
      go_wp2
      go_roundw
      case rel => exact ⟨k + 1, by omega, by go_num, hide (by rw [e8_succ, ← List.append_assoc]; exact own_snoc (by rw [hll]; exact HW.out)), hide (below_step hbel.out hsz.out hown.out HW2.out)⟩
      case measure => simp [intOf]; omega
    · have h8 : k = 8 := by omega
      subst h8
      go_wp2
      go_ret
      exact ⟨_, rfl, hown.out, hbel.out⟩

def horner (zs : List Int) (k : Nat) : Int := (zs.take k).foldl (fun n c => n * 256 + c) 0
def ue (zs : List Int) : Int × Int := if zs.length < 8 then (0, 4) else (horner zs 8, 0)
theorem horner_succ (zs : List Int) (k : Nat) (h : k < zs.length) : horner zs (k + 1) = horner zs k * 256 + zs.getD k 0 := by
  unfold horner
  rw [List.take_succ_eq_append_getElem h, List.foldl_append]
  simp [List.getD, List.getElem?_eq_getElem h]
theorem horner_lt (zs : List Int) (hz : ∀ i, 0 ≤ zs.getD i 0 ∧ zs.getD i 0 < 256) : ∀ k, k ≤ zs.length → 0 ≤ horner zs k ∧ horner zs k < 256 ^ k
  | 0, _ => by simp [horner]
  | k + 1, h => by
    have ih := horner_lt zs hz k (by omega)
    have hk := hz k
    rw [horner_succ zs k (by omega), Int.pow_succ]
    generalize horner zs k = a at *
    generalize (256 : Int) ^ k = p at *
    generalize zs.getD k 0 = c at *
    omega
theorem or_eight (N c : Int) (h0 : 0 ≤ N) (h1 : N < 72057594037927936) (hc : 0 ≤ c ∧ c < 256) : bits BinOp.or IntKind.u64 (N * 256) c = N * 256 + c := by
  obtain ⟨M, rfl⟩ := Int.eq_ofNat_of_zero_le h0
  obtain ⟨C, rfl⟩ := Int.eq_ofNat_of_zero_le hc.1
  rw [show (M : Int) * 256 = ((M * 256 : Nat) : Int) from by omega, u64_or_nat _ _ (by omega) (by omega), nat_join 8 (M * 256) C (by omega) (by omega)]
  omega
theorem pow256 (k : Nat) (hk : k ≤ 7) : (256 : Int) ^ k ≤ 72057594037927936 := by
  match k, hk with
  | 0, _ => decide
  | 1, _ => decide
  | 2, _ => decide
  | 3, _ => decide
  | 4, _ => decide
  | 5, _ => decide
  | 6, _ => decide
  | 7, _ => decide

def tup2 (r : Int × Int) : Value := .tuple #[.int .u64 r.1, .int .i64 r.2]

set_option maxHeartbeats 400000 in
theorem uneight_any (ao : Option Addr) (len cap : Nat) (zs : List Int) (w : World) (hm : len ≤ 9223372036854775807) (h : Bs w ao len cap zs) :
    Calls Try.prog 17 #[.slice ao len cap] w fun e w' => e = .returned (tup2 (ue zs)) ∧ w' = w := by
  by_cases h8 : len < 8
  · have hu := hide (show ue zs = (0, 4) by unfold ue; rw [if_pos (by rw [h.1]; exact h8)])
    clear h
    go_enter Try.func17, Try.ntmps17
    go_wp2
    go_ret2
    exact ⟨by rw [hu.out]; rfl, rfl⟩
  · have hu := hide (show ue zs = (horner zs 8, 0) by unfold ue; rw [if_neg (by rw [h.1]; exact h8)])
    obtain ⟨b, off, rfl, hcell⟩ := h.2.2.2 (by omega)
    have hz := hide h.2.2.1
    have hl := hide h.1
    have hcap := h.2.1.1
    have HC := hide hcell
    clear h hcell
    go_enter Try.func17, Try.ntmps17
    go_wp2
    go_loop [4, 13] (fun n i => ∃ k : Nat, k ≤ 8 ∧ i = .int .i64 k ∧ n = .int .u64 (horner zs k)) (fun _ i => 8 - (intOf i).toNat)
    case atStart => exact ⟨0, by omega, rfl, rfl⟩
    case round =>
      obtain ⟨k, hk, rfl, rfl⟩ := hrel
      by_cases hlt : k < 8
      · have hck := HC.out k (by omega)
        have hzk := hz.out k
        have hn := horner_lt zs hz.out k (by have := hl.out; omega)
        have hp := pow256 k (by omega)
        have HS := hide (horner_succ zs k (by have := hl.out; omega))
        have HO := hide (or_eight (horner zs k) (zs.getD k 0) hn.1 (by omega) hzk)
        have hn1 : 0 ≤ horner zs k ∧ horner zs k < 72057594037927936 := by omega
        clear hn hp
        generalize zs.getD k 0 = c at *
        generalize hH : horner zs k = H at *
        clear hH
        go_wp2
        go_round
        case rel => exact ⟨k + 1, by omega, by go_num, by rw [HS.out, ← HO.out]⟩
        case measure => simp [intOf]; omega
      · have h8 : k = 8 := by omega
        subst h8
        go_wp2
        go_ret2
        exact ⟨by rw [hu.out]; rfl, rfl⟩

end Go.Proofs.Ytonfnpcgjcicdaa.Clep
