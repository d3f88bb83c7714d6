/- A text turned into bytes, cut, and with bytes behind: what an append to a beginning of such a row leads to. Conditions: lengths of at most 2^46. -/
import Derived.Test.YtdldpdllhnpdaaaZr
import Derived.Test.YtdldpdllhnpdaaaZa
import Derived.ArgAppend
import Derived.Deep.Upon
namespace Go.Proofs.Ytdldpdllhnpdaaa.Clep
open Go.RowKit
set_option linter.unusedVariables false
set_option maxRecDepth 10000

theorem setCells_ch (g : Nat) : ∀ (vs : List Value) (o : Nat) (w : World), Ch (fun b => b = g) w (w.setCells g o vs)
  | [], _, w => Ch.of (Below.refl _ _)
  | v :: r, o, w => (Ch.set (P := fun b => b = g) w ⟨g, o, none⟩ v rfl).trans (setCells_ch g r (o + 1) _)
theorem wpList_app_cut {w : World} {ops : Array Oper} {rest : List Oper} {o : Oper} {a : Act} {Q : Exit → Act → World → Prop} (hgd : o.guard = none) (s x : Operand)
    (ho : o.op = .call { callee := .builtin .append, args := #[s, x], argTypes := #[26, 26] })
    (base g n cap : Nat) (zs : List Int) (hs : a.eval s = .slice (some ⟨g, 0, none⟩) n cap) (hr : Rm w g cap zs) (hn : n ≤ zs.length) (hg : base ≤ g) (hbase : base ≤ w.heap.size)
    (ao : Option Addr) (len cap2 : Nat) (ys : List Int) (hx : a.eval x = .slice ao len cap2) (hb : Bs w ao len cap2 ys) (hlen : n + len ≤ 70368744177664)
    (h : ∀ ao' cap' w', Bs w' ao' (n + len) cap' (zs.take n ++ ys) → Below base w w' → wpList Try.prog ops Q rest (a.put o.dst (.slice ao' (n + len) cap')) w') : wpList Try.prog ops Q (o :: rest) a w := by
  obtain ⟨i0, hi, hz0, hz1, hz2⟩ := info_parts info5
  have hle := hr.le
  have htl : (zs.take n).length = n := by rw [List.length_take]; omega
  have htr : ∀ z ∈ zs.take n ++ ys, 0 ≤ z ∧ z < 256 := cat_range (fun z hz => hr.range z (List.mem_of_mem_take hz)) (bs_range hb)
  have hget : ∀ i, i < n → (zs.take n).getD i 0 = zs.getD i 0 := fun i hi => by simp [List.getD, hi]
  cases ao with
  | none =>
    obtain ⟨rfl, rfl⟩ := hb.2.1.2 rfl
    obtain rfl : ys = [] := List.eq_nil_of_length_eq_zero hb.1
    refine wpList_plain hgd fun K hK' => ?_
    have hrun := run_append_nothing (P := Try.prog) w 26 26 o.type 5 i0 Try.underlying26 hi (some ⟨g, 0, none⟩) n cap (by omega) (.slice none 0 0) (Src.ofNil w Try.underlying26 0)
    unfold Oper.wp
    simp [execOp, ho, resolve, invoke, builtin, hs, hx, hrun, Result.andThen]
    refine hK' _ _ (h (some ⟨g, 0, none⟩) cap w ?_ (Below.refl _ _))
    rw [List.append_nil]
    exact ⟨htl, ⟨by omega, fun e => by cases e⟩, range_of fun z hz => hr.range z (List.mem_of_mem_take hz), fun _ => ⟨g, 0, rfl, fun i hi => by rw [Nat.zero_add, hget i hi]; exact hr.cell i (by omega)⟩⟩
  | some ad =>
    refine wpList_append_arg w hgd s x 26 ho 5 i0 (.int .u8 0) 1 1 Try.underlying26 hi hz0 hz1 hz2 rfl (by decide) g 0 n cap (bv (zs.take n)) hs (by rw [bv_len, htl, Nat.mul_one]) (fun j u hj => ?_) ad len cap2 (bv ys) hx (by rw [bv_len, hb.1, Nat.mul_one]) (bs_cells hb ad rfl) (bv_one ys)
      (fun hroom j hj => ?_) (by unfold maxLen; omega) (by omega) (fun hroom => ?_) (fun hfull v' w' h1 h2 => ?_)
    · obtain ⟨hj2, rfl⟩ := bv_get hj
      rw [htl] at hj2
      rw [Nat.zero_add, hget j hj2]
      exact hr.cell j (by omega)
    · rw [bv_len, hb.1] at hj
      rw [Nat.zero_add, Nat.mul_one]
      exact ⟨hr.some _ (by omega), hr.free _ (by omega)⟩
    · have hbl := hb.1
      refine h (some ⟨g, 0, none⟩) cap _ ⟨by rw [List.length_append, htl, hb.1], ⟨hroom, fun e => by cases e⟩, range_of htr, fun _ => ⟨g, 0, rfl, fun i hi => ?_⟩⟩ ((setCells_ch g (bv ys) (0 + n * 1) w).below hbase fun i e => by rw [e]; exact hg)
      rw [show (0 : Nat) + i = i by omega]
      by_cases hin : i < n
      · rw [World.cell?_setCells_out g (bv ys) (0 + n * 1) w ⟨g, i, none⟩ (fun _ _ => .inl (by simp only; omega)), hr.cell i (by omega)]
        rw [← hget i hin]
        simp [List.getD, List.getElem?_append_left (show i < (zs.take n).length by omega)]
      · have := World.cell?_setCells_in g (bv ys) (0 + n * 1) w (fun j hj => by rw [bv_len, hb.1] at hj; exact hr.some _ (by omega)) (i - n) (by rw [bv_len, hb.1]; omega)
        rw [show 0 + n * 1 + (i - n) = i by omega] at this
        rw [this]
        have hlt : i - n < ys.length := by omega
        simp [bv, List.getD, List.getElem?_append_right (show (zs.take n).length ≤ i by omega), htl, List.getElem?_eq_getElem hlt]
    · have hO : Own w' w.heap.size v' (zs.take n ++ ys) := by
        unfold Own
        rw [List.length_append, htl, hb.1, show bv (zs.take n ++ ys) = bv (zs.take n) ++ bv ys from by simp [bv]]
        exact h1
      obtain ⟨ao', cap', rfl, _, hbs, _⟩ := own_bs hO (range_of htr)
      rw [List.length_append, htl, hb.1] at hbs ⊢
      exact h ao' cap' w' hbs ((Below.refl base w).grown h2 hbase (fun k hk => by cases hk))

end Go.Proofs.Ytdldpdllhnpdaaa.Clep
