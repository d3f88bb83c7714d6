/- Atomic pointers in a run of one goroutine: what sync/atomic's LoadPointer, StorePointer and CompareAndSwapPointer do when called, and the methods of atomic.Pointer at items and at towers; the same for atomic.Int64. Conditions: the cell may be written; a pointer leads to the beginning of a block of its type. -/
import Derived.Test.YtjpoahnecbefaaaDoorSRow
import Derived.Lib.Builder
import Derived.Deep.Heap
import Derived.Laws.LoneSync
import Derived.Laws.Pointers
import Derived.Laws.NewBlocks
import Derived.Tactics
import Derived.Tactics2
namespace Go.Proofs.YtjpoahnecbefaaaDoor.Clep
open Go.RowKit
set_option linter.unusedVariables false

/-- A pointer to the beginning of a block, or nil. -/
def pt (o : Option Nat) : Value := .pointer (o.map fun b => ⟨b, 0, none⟩)
theorem run_call_load_ptr {P : Program} {f : FuncId} {fn : Func} (hf : P.funcs[f]? = some fn) (hname : (fn.name == "runtime.NumGoroutine") = false) (hb : fn.body.isNone = true) (hn : Extern.findNext fn = none)
    (he : Extern.find fn = some (Extern.Atomic.loadT .ptr)) {a : Addr} {x : Option Addr} {w : World} (hc : w.cell? a = some (.pointer x)) :
    (callFunc f #[.pointer (some a)]).run P w = .ok (.value (.pointer x)) w := by
  rw [run_callFunc_extern hf hname hb hn he]
  change (Sem.run P (do Extern.Atomic.read .ptr (← asAddr (.pointer (some a)))) w).andThen _ = _
  simp [Extern.Atomic.read, asAddr, hc, Result.andThen]
theorem run_call_store_ptr {P : Program} {f : FuncId} {fn : Func} (hf : P.funcs[f]? = some fn) (hname : (fn.name == "runtime.NumGoroutine") = false) (hb : fn.body.isNone = true) (hn : Extern.findNext fn = none)
    (he : Extern.find fn = some Extern.Atomic.storeT) {a : Addr} {y : Option Addr} {u : Value} {w : World} (hc : w.cell? a = some u) (hz : w.frozen? a = false) :
    (callFunc f #[.pointer (some a), .pointer y]).run P w = .ok (.value (.tuple #[])) (w.setCell a (.pointer y)) := by
  rw [run_callFunc_extern hf hname hb hn he]
  change (Sem.run P (do
    store (← asAddr (.pointer (some a))) (.pointer y) .atomic
    pure Extern.Atomic.none_) w).andThen _ = _
  simp [asAddr, hc, hz, run_store P w a (.pointer y) .atomic rfl, Result.andThen, Extern.Atomic.none_]
theorem run_call_cas_ptr {P : Program} {f : FuncId} {fn : Func} (hf : P.funcs[f]? = some fn) (hname : (fn.name == "runtime.NumGoroutine") = false) (hb : fn.body.isNone = true) (hn : Extern.findNext fn = none)
    (he : Extern.find fn = some (Extern.Atomic.casT .ptr)) {a : Addr} {x y : Option Addr} {w : World} (hc : w.cell? a = some (.pointer x)) (hz : w.frozen? a = false) :
    (callFunc f #[.pointer (some a), .pointer x, .pointer y]).run P w = .ok (.value (.bool true)) (w.setCell a (.pointer y)) := by
  rw [run_callFunc_extern hf hname hb hn he]
  change (Sem.run P (do
    let a' ← asAddr (.pointer (some a))
    if ← Extern.Atomic.touchesFrozen a' then unsupported (.unsafePointer "a write to bytes that a string shares")
    let eq ← match Extern.Atomic.T.ptr, ← Extern.Atomic.read .ptr a', Value.pointer x with
      | _, .int _ x, .int _ y => pure (x == y)
      | .ptr, .pointer x, .pointer y => samePointer x y
      | .int _, .pointer (some _), .int _ 0 | .int _, .int _ 0, .pointer (some _) => pure false
      | .int _, .pointer (some _), _ | .int _, _, .pointer (some _) => unsupported .addressObserved
      | _, _, _ => stuck "atomic.CompareAndSwap: old is no T"
    if eq then store a' (.pointer y) .atomic
    pure (Value.bool eq)) w).andThen _ = _
  have hs : (samePointer x x).run P w = .ok true w := by
    cases x with
    | none => simp [samePointer]
    | some b => simp [samePointer, run_sameAddr_same]
  simp [Extern.Atomic.touchesFrozen, Extern.Atomic.read, asAddr, viewAt, World.shape?_isSome_of_cell? hc, hc, hz, hs, run_store P w a (.pointer y) .atomic rfl, Result.andThen]

/-- The block b holds one value of n cells. -/
def Blk (w : World) (b : Nat) (cs : Array Value) (T : TypeId) : Prop := w.heap[b]? = some (.cells cs T (0, 0))
theorem Blk.shape {w : World} {b : Nat} {cs : Array Value} {T : TypeId} (h : Blk w b cs T) : w.shape? b = some (T, cs.size) := by
  simp [World.shape?, show w.heap[b]? = _ from h]
theorem Blk.cell {w : World} {b : Nat} {cs : Array Value} {T : TypeId} (h : Blk w b cs T) {o : Nat} {v : Value} (hv : cs[o]? = some v) : w.cell? ⟨b, o, none⟩ = some v := by
  simp [World.cell?, show w.heap[b]? = _ from h, hv]
theorem Blk.free {w : World} {b : Nat} {cs : Array Value} {T : TypeId} (h : Blk w b cs T) (o : Nat) : w.frozen? ⟨b, o, none⟩ = false := by
  simp [World.frozen?, show w.heap[b]? = _ from h]
theorem Blk.lt {w : World} {b : Nat} {cs : Array Value} {T : TypeId} (h : Blk w b cs T) : b < w.heap.size := (Array.getElem?_eq_some_iff.1 h).1
theorem Blk.set {w : World} {b : Nat} {cs : Array Value} {T : TypeId} (h : Blk w b cs T) (o : Nat) (v : Value) : Blk (w.setCell ⟨b, o, none⟩ v) b (cs.setIfInBounds o v) T := by
  unfold Blk at *
  simp [World.setCell, Array.getElem?_modify, h]
theorem Blk.other {w : World} {b : Nat} {cs : Array Value} {T : TypeId} (h : Blk w b cs T) (a : Addr) (v : Value) (hne : b ≠ a.block) : Blk (w.setCell a v) b cs T := by
  unfold Blk at *
  rw [Deep.blk_setCell_other w a v b hne]; exact h
theorem Blk.below {w w' : World} {B b : Nat} {cs : Array Value} {T : TypeId} (h : Blk w b cs T) (hb : Below B w w') (hB : b < B) : Blk w' b cs T := by
  unfold Blk at *
  rw [hb.block b hB]; exact h
theorem Blk.keep {w w' : World} {b : Nat} {cs : Array Value} {T : TypeId} (h : Blk w b cs T) (hb : Below w.heap.size w w') : Blk w' b cs T := h.below hb h.lt

/-- A pointer to a tower, or nil. -/
def PtT (w : World) (o : Option Nat) : Prop := ∀ b, o = some b → w.shape? b = some (104, 2)
def PtI (w : World) (o : Option Nat) : Prop := ∀ b, o = some b → w.shape? b = some (32, 5)
theorem toU (w : World) (o : Option Nat) (h : PtT w o) : (convert 75 100 (pt o)).run Tryd.prog w = .ok (pt o) w := by
  cases o with
  | none => simp [convert, run_underlying Tryd.underlying75, run_underlying Tryd.underlying100, Conv.unsafePointer, pt]
  | some b =>
    obtain ⟨j, hj, hj2⟩ : ∃ j, Tryd.prog.info? 104 = some j ∧ j.size = 2 := by
      have e : (Tryd.prog.info? 104).map (fun i => i.size) = some 2 := by kernel_rfl
      obtain ⟨j, h1, h2⟩ := Option.map_eq_some_iff.1 e
      exact ⟨j, h1, h2⟩
    exact Go.Lib.run_to_unsafe w ⟨b, 0, none⟩ Tryd.underlying75 Tryd.underlying100 hj (by omega) (show w.shape? (⟨b, 0, none⟩ : Addr).block = _ from h b rfl) (by simp)
theorem fromU (w : World) (o : Option Nat) (h : PtT w o) : (convert 100 75 (pt o)).run Tryd.prog w = .ok (pt o) w := by
  cases o with
  | none => simp [convert, run_underlying Tryd.underlying75, run_underlying Tryd.underlying100, Conv.unsafePointer, pt]
  | some b =>
    obtain ⟨j, hj⟩ : ∃ j, Tryd.prog.info? 104 = some j := by
      have e : (Tryd.prog.info? 104).map (fun i => i.size) = some 2 := by kernel_rfl
      obtain ⟨j, h1, h2⟩ := Option.map_eq_some_iff.1 e
      exact ⟨j, h1⟩
    exact Go.Lib.run_from_unsafe w ⟨b, 0, none⟩ Tryd.underlying100 Tryd.underlying75 hj (show w.shape? (⟨b, 0, none⟩ : Addr).block = _ from h b rfl) (by kernel_rfl)
theorem toUI (w : World) (o : Option Nat) (h : PtI w o) : (convert 98 100 (pt o)).run Tryd.prog w = .ok (pt o) w := by
  cases o with
  | none => simp [convert, run_underlying Tryd.underlying98, run_underlying Tryd.underlying100, Conv.unsafePointer, pt]
  | some b =>
    obtain ⟨j, hj, hj2⟩ : ∃ j, Tryd.prog.info? 32 = some j ∧ j.size = 5 := by
      have e : (Tryd.prog.info? 32).map (fun i => i.size) = some 5 := by kernel_rfl
      obtain ⟨j, h1, h2⟩ := Option.map_eq_some_iff.1 e
      exact ⟨j, h1, h2⟩
    exact Go.Lib.run_to_unsafe w ⟨b, 0, none⟩ Tryd.underlying98 Tryd.underlying100 hj (by omega) (show w.shape? (⟨b, 0, none⟩ : Addr).block = _ from h b rfl) (by simp)
theorem fromUI (w : World) (o : Option Nat) (h : PtI w o) : (convert 100 98 (pt o)).run Tryd.prog w = .ok (pt o) w := by
  cases o with
  | none => simp [convert, run_underlying Tryd.underlying98, run_underlying Tryd.underlying100, Conv.unsafePointer, pt]
  | some b =>
    obtain ⟨j, hj⟩ : ∃ j, Tryd.prog.info? 32 = some j := by
      have e : (Tryd.prog.info? 32).map (fun i => i.size) = some 5 := by kernel_rfl
      obtain ⟨j, h1, h2⟩ := Option.map_eq_some_iff.1 e
      exact ⟨j, h1⟩
    exact Go.Lib.run_from_unsafe w ⟨b, 0, none⟩ Tryd.underlying100 Tryd.underlying98 hj (show w.shape? (⟨b, 0, none⟩ : Addr).block = _ from h b rfl) (by kernel_rfl)

theorem loadP (a : Addr) (o : Option Nat) (w : World) (h0 : w.cell? a = some (pt o)) (ht : PtT w o) :
    Calls Tryd.prog 75 #[.pointer (some a)] w fun e w' => e = .returned (pt o) ∧ w' = w := by
  have hld := run_call_load_ptr (P := Tryd.prog) Tryd.func74 (by kernel_rfl) (by kernel_rfl) (by kernel_rfl) (by kernel_rfl) (show w.cell? a = some (.pointer (o.map fun b => ⟨b, 0, none⟩)) from h0)
  have hcv := fromU w o ht
  unfold pt at h0 hcv ⊢
  generalize (o.map fun b => (⟨b, 0, none⟩ : Addr)) = q at *
  go_enter Tryd.func75, Tryd.ntmps75
  go_wp2
  go_ret
  exact ⟨rfl, rfl⟩
theorem loadPI (a : Addr) (o : Option Nat) (w : World) (h0 : w.cell? a = some (pt o)) (ht : PtI w o) :
    Calls Tryd.prog 61 #[.pointer (some a)] w fun e w' => e = .returned (pt o) ∧ w' = w := by
  have hld := run_call_load_ptr (P := Tryd.prog) Tryd.func74 (by kernel_rfl) (by kernel_rfl) (by kernel_rfl) (by kernel_rfl) (show w.cell? a = some (.pointer (o.map fun b => ⟨b, 0, none⟩)) from h0)
  have hcv := fromUI w o ht
  unfold pt at h0 hcv ⊢
  generalize (o.map fun b => (⟨b, 0, none⟩ : Addr)) = q at *
  go_enter Tryd.func61, Tryd.ntmps61
  go_wp2
  go_ret
  exact ⟨rfl, rfl⟩
theorem storeP (a : Addr) (u : Value) (o : Option Nat) (w : World) (h0 : w.cell? a = some u) (hz : w.frozen? a = false) (ht : PtT w o) :
    Calls Tryd.prog 59 #[.pointer (some a), pt o] w fun e w' => e = .returned (.tuple #[]) ∧ w' = w.setCell a (pt o) := by
  have hld := run_call_store_ptr (P := Tryd.prog) Tryd.func70 (by kernel_rfl) (by kernel_rfl) (by kernel_rfl) (by kernel_rfl) (y := o.map fun b => ⟨b, 0, none⟩) h0 hz
  have hcv := toU w o ht
  unfold pt at hcv ⊢
  generalize (o.map fun b => (⟨b, 0, none⟩ : Addr)) = q at *
  go_enter Tryd.func59, Tryd.ntmps59
  go_wp2
  go_end0
  exact ⟨rfl, rfl⟩
theorem storePI (a : Addr) (u : Value) (o : Option Nat) (w : World) (h0 : w.cell? a = some u) (hz : w.frozen? a = false) (ht : PtI w o) :
    Calls Tryd.prog 55 #[.pointer (some a), pt o] w fun e w' => e = .returned (.tuple #[]) ∧ w' = w.setCell a (pt o) := by
  have hld := run_call_store_ptr (P := Tryd.prog) Tryd.func70 (by kernel_rfl) (by kernel_rfl) (by kernel_rfl) (by kernel_rfl) (y := o.map fun b => ⟨b, 0, none⟩) h0 hz
  have hcv := toUI w o ht
  unfold pt at hcv ⊢
  generalize (o.map fun b => (⟨b, 0, none⟩ : Addr)) = q at *
  go_enter Tryd.func55, Tryd.ntmps55
  go_wp2
  go_end0
  exact ⟨rfl, rfl⟩
theorem casP (a : Addr) (o p : Option Nat) (w : World) (h0 : w.cell? a = some (pt o)) (hz : w.frozen? a = false) (ht : PtT w o) (hp : PtT w p) :
    Calls Tryd.prog 60 #[.pointer (some a), pt o, pt p] w fun e w' => e = .returned (.bool true) ∧ w' = w.setCell a (pt p) := by
  have hld := run_call_cas_ptr (P := Tryd.prog) Tryd.func73 (by kernel_rfl) (by kernel_rfl) (by kernel_rfl) (by kernel_rfl) (y := p.map fun b => ⟨b, 0, none⟩) (show w.cell? a = some (.pointer (o.map fun b => ⟨b, 0, none⟩)) from h0) hz
  have hcv := toU w o ht
  have hcp := toU w p hp
  unfold pt at h0 hcv hcp ⊢
  generalize (o.map fun b => (⟨b, 0, none⟩ : Addr)) = q at *
  generalize (p.map fun b => (⟨b, 0, none⟩ : Addr)) = r at *
  go_enter Tryd.func60, Tryd.ntmps60
  go_wp2
  go_ret
  exact ⟨rfl, rfl⟩
theorem casPI (a : Addr) (o p : Option Nat) (w : World) (h0 : w.cell? a = some (pt o)) (hz : w.frozen? a = false) (ht : PtI w o) (hp : PtI w p) :
    Calls Tryd.prog 63 #[.pointer (some a), pt o, pt p] w fun e w' => e = .returned (.bool true) ∧ w' = w.setCell a (pt p) := by
  have hld := run_call_cas_ptr (P := Tryd.prog) Tryd.func73 (by kernel_rfl) (by kernel_rfl) (by kernel_rfl) (by kernel_rfl) (y := p.map fun b => ⟨b, 0, none⟩) (show w.cell? a = some (.pointer (o.map fun b => ⟨b, 0, none⟩)) from h0) hz
  have hcv := toUI w o ht
  have hcp := toUI w p hp
  unfold pt at h0 hcv hcp ⊢
  generalize (o.map fun b => (⟨b, 0, none⟩ : Addr)) = q at *
  generalize (p.map fun b => (⟨b, 0, none⟩ : Addr)) = r at *
  go_enter Tryd.func63, Tryd.ntmps63
  go_wp2
  go_ret
  exact ⟨rfl, rfl⟩
theorem loadN (a : Addr) (x : Int) (w : World) (h0 : w.cell? a = some (.int .i64 x)) :
    Calls Tryd.prog 25 #[.pointer (some a)] w fun e w' => e = .returned (.int .i64 x) ∧ w' = w := by
  have hld := run_call_load (P := Tryd.prog) Tryd.func46 (by kernel_rfl) (by kernel_rfl) (by kernel_rfl) .i64 (by kernel_rfl) h0
  go_enter Tryd.func25, Tryd.ntmps25
  go_wp2
  go_ret
  exact ⟨rfl, rfl⟩
theorem addN (a : Addr) (x : Nat) (w : World) (h0 : w.cell? a = some (.int .i64 x)) (hz : w.frozen? a = false) (hx : x < 1099511627776) :
    Calls Tryd.prog 44 #[.pointer (some a), .int .i64 1] w fun e w' => e = .returned (.int .i64 (x + 1 : Nat)) ∧ w' = w.setCell a (.int .i64 (x + 1 : Nat)) := by
  have hs : (Op.intArith .add .i64 (x : Int) 1).run Tryd.prog w = .ok (.int .i64 ((x + 1 : Nat) : Int)) w := by
    simp [go_sem, IntKind.wrap, IntKind.bits, IntKind.signed]; omega
  have hld := run_call_add (P := Tryd.prog) Tryd.func64 (by kernel_rfl) (by kernel_rfl) (by kernel_rfl) .i64 (by kernel_rfl) h0 hz hs
  go_enter Tryd.func44, Tryd.ntmps44
  go_wp2
  go_ret
  exact ⟨rfl, rfl⟩

end Go.Proofs.YtjpoahnecbefaaaDoor.Clep
