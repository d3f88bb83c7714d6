/- A region that draws its order, whose operations may stand under guards, and whose slots' values are known ahead: each operation looked at once. No conditions. -/
import Derived.Test.YtcbphalhjajapaaHInv
namespace Go.Proofs.Ytcbphalhjajapaa.Clep
open Go.RowKit
set_option linter.unusedVariables false
set_option maxRecDepth 10000

theorem wanted_of {ops : Array Oper} {a : Act} {o : Oper} {j d : Nat} {b c : Bool} (hg : o.guard = some (j, b)) (hd : dstOf ops j = some d) (hv : a.tmps[d]? = some (.bool c)) : Region.wanted o (yielded ops a.tmps) = (c == b) := by
  unfold dstOf at hd
  unfold Region.wanted yielded
  rw [hg]
  simp only [hd, Option.bind_some, hv]
  cases c <;> cases b <;> rfl
section
variable {P : Program} {ops : Array Oper} {Q : Exit → Act → World → Prop} {T0 : Array Value} {D : List Deferred} {Th : (Nat → Bool) → Nat → Value → World → Prop} {G : (Nat → Bool) → World → Prop} {L : Nat → Bool} {a : Act} {W : World}
/-- A guarded operation that is wanted. -/
theorem SI.gmore (h : SI ops T0 D Th G L a W) (hap : apartB ops T0.size = true) {i d : Nat} {o : Oper} (hi : i < ops.size) (ho : ops[i]? = some o) (hd : o.dst = some d) {j dj : Nat} {b : Bool} (hg : o.guard = some (j, b)) (hdj : dstOf ops j = some dj) (hvj : a.tmps[dj]? = some (.bool b))
    (hrun : ∀ K : Act → World → Prop, (∀ v W', Th (upd L i) i v W' → (∀ j u, j ≠ i → L j = true → Th L j u W → Th (upd L i) j u W') → G (upd L i) W' → K (a.put (some d) v) W') → Oper.wp P o a W K Q) : wpOp P ops Q i (fun a' w' => SI ops T0 D Th G (upd L i) a' w') a W := by
  have hd' : dstOf ops i = some d := by unfold dstOf; rw [ho]; exact hd
  unfold wpOp
  rw [ho]
  have hw : Region.wanted o (yielded ops a.tmps) = true := by rw [wanted_of hg hdj hvj]; simp
  simp only [hw, if_true]
  exact .inl (hrun _ (fun v W' hv hk hG => h.put hap hi hd' hv hk hG))
theorem SI.gpure (h : SI ops T0 D Th G L a W) (hap : apartB ops T0.size = true) {i d : Nat} {o : Oper} {v : Value} (hi : i < ops.size) (ho : ops[i]? = some o) (hd : o.dst = some d) {j dj : Nat} {b : Bool} (hg : o.guard = some (j, b)) (hdj : dstOf ops j = some dj) (hvj : a.tmps[dj]? = some (.bool b))
    (hv : Th (upd L i) i v W) (hk : ∀ j u, j ≠ i → L j = true → Th L j u W → Th (upd L i) j u W) (hG : G (upd L i) W) (hrun : ∀ K : Act → World → Prop, K (a.put (some d) v) W → Oper.wp P o a W K Q) : wpOp P ops Q i (fun a' w' => SI ops T0 D Th G (upd L i) a' w') a W :=
  h.gmore hap hi ho hd hg hdj hvj (fun K hK => hrun K (hK v W hv hk hG))
/-- A guarded operation that is not wanted. -/
theorem SI.gskip (h : SI ops T0 D Th G L a W) (hap : apartB ops T0.size = true) {i d : Nat} {o : Oper} (hi : i < ops.size) (ho : ops[i]? = some o) (hd : o.dst = some d) {j dj : Nat} {b c : Bool} (hg : o.guard = some (j, b)) (hdj : dstOf ops j = some dj) (hvj : a.tmps[dj]? = some (.bool c)) (hbc : (c == b) = false)
    (hv : Th (upd L i) i undef W) (hk : ∀ j u, j ≠ i → L j = true → Th L j u W → Th (upd L i) j u W) (hG : G (upd L i) W) : wpOp P ops Q i (fun a' w' => SI ops T0 D Th G (upd L i) a' w') a W := by
  have hd' : dstOf ops i = some d := by unfold dstOf; rw [ho]; exact hd
  unfold wpOp
  rw [ho]
  have hw : Region.wanted o (yielded ops a.tmps) = false := by rw [wanted_of hg hdj hvj, hbc]
  simp only [hw]
  rw [hd]
  exact h.put hap hi hd' hv hk hG
end
/-- The slots' values, known ahead; memory is made alone. -/
def SvT (V : Nat → Value) : (Nat → Bool) → Nat → Value → World → Prop := fun _ i v _ => v = V i
def SvB (w : World) : (Nat → Bool) → World → Prop := fun _ W => Below w.heap.size w W
theorem SI.sv {ops : Array Oper} {T0 : Array Value} {D : List Deferred} {V : Nat → Value} {w : World} {L : Nat → Bool} {a : Act} {W : World} (h : SI ops T0 D (SvT V) (SvB w) L a W) (i d : Nat) (hi : i < ops.size) (hL : L i = true) (hd : dstOf ops i = some d) : a.tmps[d]? = some (V i) := by
  obtain ⟨v, h1, h2⟩ := h.new i d hi hL hd
  rw [h1]
  exact congrArg some h2
theorem region_sv {P : Program} {id : Nat} {ops : Array Oper} {Q : Exit → Act → World → Prop} {T0 : Array Value} {D : List Deferred} {w : World} (V : Nat → Value) (hm : P.follows .mixedOrders = true) (hl : lined ops = true) (hap : apartB ops T0.size = true)
    (step : ∀ (L : Nat → Bool) (a : Act) (W : World) (i : Nat), apartB ops T0.size = true → SI ops T0 D (SvT V) (SvB w) L a W → i < ops.size → L i = false → (∀ j, waits ops i j = true → L j = true) → wpOp P ops Q i (fun a' w' => SI ops T0 D (SvT V) (SvB w) (upd L i) a' w') a W)
    (fin : ∀ (L : Nat → Bool) (a : Act) (W : World), SI ops T0 D (SvT V) (SvB w) L a W → (∀ i, i < ops.size → L i = true) → Q .normal a W) : (Code.region id ops true).wp P Q ⟨T0, D⟩ w :=
  region_si (SvT V) (SvB w) hm hl hap (Below.refl _ w).drew (fun L a W i => step L a W i hap) fin

end Go.Proofs.Ytcbphalhjajapaa.Clep
