/- The List with towers in memory: which block holds what; what tower.next and tower.item do when called. Conditions: none but that the tower is one of the List's, and the level one of its own. -/
import Derived.Test.YtjpoahnecbefaaaDoorTPtr
import Derived.Test.YtjpoahnecbefaaaDoorTSk
import Derived.Test.YtjpoahnecbefaaaDoorSVx
namespace Go.Proofs.YtjpoahnecbefaaaDoor.Clep
open Go.RowKit
set_option linter.unusedVariables false

def itV (x : It) : Array Value := #[.int .i64 x.S, .int .i64 x.K, .int .u64 x.T, .int .u64 x.V, .int .i64 x.X]
def Sk.towV (S : Sk) (t : Nat) : Array Value := #[pt (some (S.i t)), .slice (some ⟨S.k t, 0, none⟩) (S.m t) (S.m t)]
def Sk.lnkV (S : Sk) (t : Nat) : Array Value := ((List.range (S.m t)).map fun j => pt (S.nx t j)).toArray
/-- The tower t lies in memory. -/
structure TwAt (w : World) (S : Sk) (t : Nat) : Prop where
  tow : Blk w t (S.towV t) 104
  lnk : Blk w (S.k t) (S.lnkV t) 111
  itm : Blk w (S.i t) (itV (S.x t)) 32
  hm : 1 ≤ S.m t ∧ S.m t ≤ 6
/-- The List and the towers ts lie in memory. -/
structure Hp (w : World) (S : Sk) (ts : List Nat) : Prop where
  head : Blk w S.L #[pt (some S.f), .int .i64 S.n] 78
  tw : ∀ t ∈ ts, TwAt w S t
  kk : ∀ s ∈ ts, ∀ t ∈ ts, S.k s = S.k t → s = t
  tgt : ∀ t ∈ ts, ∀ j, j < S.m t → ∀ b, S.nx t j = some b → b ∈ ts
theorem Blk.ne {w : World} {a b : Nat} {cs ds : Array Value} {T U : TypeId} (h : Blk w a cs T) (k : Blk w b ds U) (hne : T ≠ U) : a ≠ b := by
  intro e
  subst e
  unfold Blk at *
  rw [h] at k
  injection k with k
  injection k with _ k
  exact hne k
theorem TwAt.keep {w w' : World} {S : Sk} {t : Nat} (h : TwAt w S t) (hb : Below w.heap.size w w') : TwAt w' S t := ⟨h.tow.keep hb, h.lnk.keep hb, h.itm.keep hb, h.hm⟩
theorem Hp.keep {w w' : World} {S : Sk} {ts : List Nat} (h : Hp w S ts) (hb : Below w.heap.size w w') : Hp w' S ts := ⟨h.head.keep hb, fun t ht => (h.tw t ht).keep hb, h.kk, h.tgt⟩
theorem Hp.sub {w : World} {S : Sk} {ts us : List Nat} (h : Hp w S ts) (hs : ∀ t ∈ us, t ∈ ts) (hg : ∀ t ∈ us, ∀ j, j < S.m t → ∀ b, S.nx t j = some b → b ∈ us) : Hp w S us :=
  ⟨h.head, fun t ht => h.tw t (hs t ht), fun s hs' t ht => h.kk s (hs s hs') t (hs t ht), hg⟩
theorem Hp.ptT {w : World} {S : Sk} {ts : List Nat} (h : Hp w S ts) {t : Nat} (ht : t ∈ ts) : PtT w (some t) := by
  intro b hb
  cases hb
  exact (h.tw t ht).tow.shape
theorem Hp.ptN {w : World} {S : Sk} {ts : List Nat} (h : Hp w S ts) {t j : Nat} (ht : t ∈ ts) (hj : j < S.m t) : PtT w (S.nx t j) := by
  intro b hb
  exact (h.tw b (h.tgt t ht j hj b hb)).tow.shape
theorem lnk_get {S : Sk} {t j : Nat} (hj : j < S.m t) : (S.lnkV t)[j]? = some (pt (S.nx t j)) := by
  unfold Sk.lnkV
  simp [hj]
theorem TwAt.link {w : World} {S : Sk} {t j : Nat} (h : TwAt w S t) (hj : j < S.m t) : w.cell? ⟨S.k t, j, none⟩ = some (pt (S.nx t j)) := h.lnk.cell (lnk_get hj)
theorem TwAt.c0 {w : World} {S : Sk} {t : Nat} (h : TwAt w S t) : w.cell? ⟨t, 0, none⟩ = some (pt (some (S.i t))) := h.tow.cell rfl
theorem TwAt.c1 {w : World} {S : Sk} {t : Nat} (h : TwAt w S t) : w.cell? ⟨t, 1, none⟩ = some (.slice (some ⟨S.k t, 0, none⟩) (S.m t) (S.m t)) := h.tow.cell rfl
theorem TwAt.vi {w : World} {S : Sk} {t : Nat} (h : TwAt w S t) : Vi w (S.i t) 0 (S.x t).S (S.x t).K (S.x t).T (S.x t).V (S.x t).X :=
  ⟨h.itm.cell rfl, h.itm.cell rfl, h.itm.cell rfl, h.itm.cell rfl, h.itm.cell rfl⟩

set_option maxHeartbeats 400000 in
theorem next_any (w : World) (S : Sk) (ts : List Nat) (t j : Nat) (A : Int) (h : Hp w S ts) (ht : t ∈ ts) (hj : j < S.m t) (hA : A = j + 1) :
    Calls Tryd.prog 66 #[.pointer (some ⟨t, 0, none⟩), .int .i64 A] w fun e w' => e = .returned (pt (S.nx t j)) ∧ w' = w := by
  have c1 := (h.tw t ht).c1
  have hm := (h.tw t ht).hm
  have hL := hide (loadP ⟨S.k t, j, none⟩ (S.nx t j) w ((h.tw t ht).link hj) (h.ptN ht hj))
  generalize S.k t = k at *
  generalize S.m t = m at *
  generalize pt (S.nx t j) = v at *
  have e1 : A - 1 = (j : Int) := by omega
  have e2 : IntKind.i64.wrap (j : Int) = (j : Int) := by simp [IntKind.wrap, IntKind.bits, IntKind.signed]; omega
  have e3 : (j : Int) < (m : Int) := by omega
  clear h hA
  go_enter Tryd.func66, Tryd.ntmps66
  go_wp2_with fail
  refine hL.out.mono ?_
  rintro e w1 ⟨rfl, rfl⟩
  go_wp2
  go_ret
  exact ⟨rfl, rfl⟩

theorem item_results {w : World} {R : Nat} {S K T V X : Int} (h : Vx w R S K T V X) (ts : Array Value) (h2 : ts.getD 2 undef = .pointer (some ⟨R, 0, none⟩)) :
    (results Tryd.f56 ts).run Tryd.prog w = .ok (.agg #[.int .i64 S, .int .i64 K, .int .u64 T, .int .u64 V, .int .i64 X]) w := by
  obtain ⟨⟨h0, h1, h4, h5, h6⟩, -⟩ := h
  simp only [Nat.zero_add] at h1 h4 h5 h6
  rw [Array.getD_eq_getD_getElem?] at h2
  simp [results, Tryd.results56, go_sem, h0, h1, h2, h4, h5, h6]
set_option maxHeartbeats 400000 in
theorem item_any (w : World) (S : Sk) (ts : List Nat) (t : Nat) (h : Hp w S ts) (ht : t ∈ ts) :
    Calls Tryd.prog 56 #[.pointer (some ⟨t, 0, none⟩)] w fun e w' => e = .returned (.agg #[.int .i64 (S.x t).S, .int .i64 (S.x t).K, .int .u64 (S.x t).T, .int .u64 (S.x t).V, .int .i64 (S.x t).X]) ∧ Below w.heap.size w w' := by
  have V0 := vx_new w 0 0 0 0 0
  have B0 := hide ((Below.refl _ w).alloc (Nat.le_refl _) (Obj.cells #[Value.int IntKind.i64 0, Value.int IntKind.i64 0, Value.int IntKind.u64 0, Value.int IntKind.u64 0, Value.int IntKind.i64 0] 32))
  have h' := (h.tw t ht).keep B0.out
  have c0 := h'.c0
  have hv := h'.vi
  have hL := hide (loadPI ⟨t, 0, none⟩ (some (S.i t)) _ c0 (fun b hb => by cases hb; exact h'.itm.shape))
  have c00 := (h.tw t ht).c0
  generalize S.i t = i at *
  generalize S.x t = x at *
  clear h h'
  obtain ⟨S0, K, T, V, X⟩ := x
  simp only at hv ⊢
  go_enter Tryd.func56, Tryd.ntmps56
  go_wp2_with fail
  refine hL.out.mono ?_
  rintro e w1 ⟨rfl, hw1⟩
  rw [← hw1] at V0 hv B0
  obtain ⟨R, hR⟩ : ∃ R, R = w.heap.size := ⟨_, rfl⟩
  have HR := hide hR
  rw [← hR] at V0 ⊢
  clear hR hw1 hL c0 c00
  have VX := hide V0
  unfold Vx Vi Vf at V0
  unfold Vi at hv
  simp only [Nat.zero_add] at V0 hv
  obtain ⟨⟨y0, y1, y2, y3, y4⟩, z0, z1, z2, z3, z4⟩ := V0
  obtain ⟨v0, v1, v2, v3, v4⟩ := hv
  unfold pt
  simp only [Option.map]
  go_wp2_with fail
  refine bodyPost_ret (item_results (VX.out.put S0 K T V X) _ rfl) rfl ⟨rfl, ?_⟩
  exact B0.out.grown (gb_putI w1 R S0 K T V X) B0.out.size (fun k hk => by cases hk; rw [HR.out]; exact Nat.le_refl _)

end Go.Proofs.YtjpoahnecbefaaaDoor.Clep
