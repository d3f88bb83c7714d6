/- The region of x, ok := F(v, l[i]): what each slot holds once its operation has come up. No conditions. -/
import Derived.Test.YtgopcaemgcnapaaEInv
import Derived.Test.YtgopcaemgcnapaaEReg
import Derived.Test.YtgopcaemgcnapaaEEdits
namespace Go.Proofs.Ytgopcaemgcnapaa.Clep
open Go.RowKit
set_option linter.unusedVariables false
set_option maxRecDepth 10000

/-- What each slot of the region holds. -/
def PTh (H : Nat) (VC : Value) (ao : Option Addr) (len cap k b off : Nat) (YV : Value) (N : Nat) (X : Vw) (o : Bool) : (Nat → Bool) → Nat → Value → World → Prop := fun L i v W => match i with
  | 0 => v = VC
  | 1 => v = .slice ao len cap
  | 2 => v = .int .i64 (k : Int)
  | 3 => v = .pointer (some ⟨b, off + k * 7, none⟩)
  | 4 => v = YV
  | 5 => ∃ a c, v = .tuple #[.agg #[.int .i64 X.lg, .slice a N c, .int .u64 X.fl, .int .u64 X.ct, .int .u64 X.at9, .int .u64 X.ls], .bool o] ∧ c ≤ 9223372036854775807 ∧ (L 10 = false → OwnF W H (.slice a N c) X.f)
  | 6 => ∃ a c, v = .tuple #[.agg #[.int .i64 X.lg, .slice a N c, .int .u64 X.fl, .int .u64 X.ct, .int .u64 X.at9, .int .u64 X.ls], .bool o] ∧ c ≤ 9223372036854775807 ∧ (L 10 = false → OwnF W H (.slice a N c) X.f)
  | 7 => ∃ a c, v = .agg #[.int .i64 X.lg, .slice a N c, .int .u64 X.fl, .int .u64 X.ct, .int .u64 X.at9, .int .u64 X.ls] ∧ c ≤ 9223372036854775807 ∧ (L 10 = false → OwnF W H (.slice a N c) X.f)
  | 8 => v = .bool o
  | 9 => ∃ p, v = .pointer (some ⟨p, 0, none⟩) ∧ H ≤ p ∧ (L 10 = false → Ek W p #[.int .i64 0, .slice none 0 0, .int .u64 0, .int .u64 0, .int .u64 0, .int .u64 0] 26) ∧ (L 10 = true → ∃ a c, Ek W p #[.int .i64 X.lg, .slice a N c, .int .u64 X.fl, .int .u64 X.ct, .int .u64 X.at9, .int .u64 X.ls] 26 ∧ c ≤ 9223372036854775807 ∧ OwnF W H (.slice a N c) X.f)
  | 11 => v = .bool o
  | _ => True
theorem pth_keep {H : Nat} {VC : Value} {ao : Option Addr} {len cap i b off : Nat} {YV : Value} {N : Nat} {X : Vw} {o : Bool} {L L' : Nat → Bool} {W W' : World} (hL : L' 10 = L 10) (hb : Below W.heap.size W W') : ∀ j u, PTh H VC ao len cap i b off YV N X o L j u W → PTh H VC ao len cap i b off YV N X o L' j u W' := by
  intro j u h
  match j, h with
  | 0, h => exact h
  | 1, h => exact h
  | 2, h => exact h
  | 3, h => exact h
  | 4, h => exact h
  | 5, ⟨a, c, h1, h2, h3⟩ => exact ⟨a, c, h1, h2, fun e => ownF_keep (h3 (hL ▸ e)) hb⟩
  | 6, ⟨a, c, h1, h2, h3⟩ => exact ⟨a, c, h1, h2, fun e => ownF_keep (h3 (hL ▸ e)) hb⟩
  | 7, ⟨a, c, h1, h2, h3⟩ => exact ⟨a, c, h1, h2, fun e => ownF_keep (h3 (hL ▸ e)) hb⟩
  | 8, h => exact h
  | 9, ⟨p, h1, h2, h3, h4⟩ => exact ⟨p, h1, h2, fun e => (h3 (hL ▸ e)).below hb (h3 (hL ▸ e)).lt, fun e => by
      obtain ⟨a, c, h5, h6, h7⟩ := h4 (hL ▸ e)
      exact ⟨a, c, h5.below hb h5.lt, h6, ownF_keep h7 hb⟩⟩
  | 10, h => trivial
  | 11, h => exact h
  | k + 12, h => trivial
theorem pth_store {H : Nat} {VC : Value} {ao : Option Addr} {len cap i b off : Nat} {YV : Value} {N : Nat} {X : Vw} {o : Bool} {L L' : Nat → Bool} {W W' : World} (hL : L' 10 = true) : ∀ j u, (j = 9 → PTh H VC ao len cap i b off YV N X o L' 9 u W') → PTh H VC ao len cap i b off YV N X o L j u W → PTh H VC ao len cap i b off YV N X o L' j u W' := by
  intro j u h9 h
  match j, h with
  | 0, h => exact h
  | 1, h => exact h
  | 2, h => exact h
  | 3, h => exact h
  | 4, h => exact h
  | 5, ⟨a, c, h1, h2, h3⟩ => exact ⟨a, c, h1, h2, fun e => by rw [hL] at e; cases e⟩
  | 6, ⟨a, c, h1, h2, h3⟩ => exact ⟨a, c, h1, h2, fun e => by rw [hL] at e; cases e⟩
  | 7, ⟨a, c, h1, h2, h3⟩ => exact ⟨a, c, h1, h2, fun e => by rw [hL] at e; cases e⟩
  | 8, h => exact h
  | 9, h => exact h9 rfl
  | 10, h => trivial
  | 11, h => exact h
  | k + 12, h => trivial
/-- What the memory holds meanwhile. -/
def PG (wS : World) : (Nat → Bool) → World → Prop := fun L W => Below wS.heap.size wS W ∧ (L 10 = true → ∀ j, j < 10 → j ≠ 8 → L j = true)
theorem pg_upd {wS : World} {L : Nat → Bool} {W : World} (i : Nat) (hi : i ≠ 10) (h : PG wS L W) : PG wS (upd L i) W := ⟨h.1, fun e j hj h8 => upd_more (h.2 (by unfold upd at e; rwa [if_neg (Ne.symm hi)] at e) j hj h8)⟩
theorem pg_below {wS : World} {L : Nat → Bool} {W W' : World} (h : PG wS L W) (hb : Below W.heap.size W W') : PG wS L W' := ⟨h.1.trans (hb.mono h.1.size), h.2⟩
theorem pg10 {wS : World} {L : Nat → Bool} {W : World} (h : PG wS L W) {i : Nat} (hi : i < 10) (h8 : i ≠ 8) (hL : L i = false) : L 10 = false := by
  cases e : L 10 with
  | false => rfl
  | true => rw [h.2 e i hi h8] at hL; cases hL
theorem waits_but {ops : Array Oper} {i n k : Nat} (h : (List.range n).all (fun j => j == k || waits ops i j) = true) : ∀ j, j < n → j ≠ k → waits ops i j = true := fun j hj hk => by
  have := List.all_eq_true.1 h j (List.mem_range.2 hj)
  simpa [hk] using this
theorem upd10 {L : Nat → Bool} {i : Nat} (hi : 10 ≠ i) : upd L i 10 = L 10 := by unfold upd; rw [if_neg hi]

end Go.Proofs.Ytgopcaemgcnapaa.Clep
