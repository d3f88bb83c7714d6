/- The List as rising items, each with its height; what Put makes of them; which blocks are the List's. No conditions. -/
import Derived.Test.YtjpoahnecbefaaaDoorTBuild
import Derived.LaidEql
namespace Go.Proofs.YtjpoahnecbefaaaDoor.Clep
open Go.RowKit
set_option linter.unusedVariables false

/-- What Put answers of an item that may be, and what it makes of the items and their heights. -/
def putW (x : It) (h : Nat) : List (It × Nat) → Bool × List (It × Nat)
  | [] => (true, [(x, h)])
  | (y, g) :: r => if y.less x then ((putW x h r).1, (y, g) :: (putW x h r).2) else if y.same x then (if x.wins y then (true, (x, g) :: r) else (false, (y, g) :: r)) else (true, (x, h) :: (y, g) :: r)
def Sk.abs (S : Sk) : List (It × Nat) := S.l.map fun t => (S.x t, S.g t)
def Sk.blk (S : Sk) (b : Nat) : Prop := b = S.L ∨ ∃ t ∈ S.f :: S.l, b = t ∨ b = S.k t ∨ b = S.i t
/-- The List at L holds the items ws, each with its height; its blocks are B's. -/
def Held (w : World) (L : Nat) (B : Nat → Prop) (ws : List (It × Nat)) : Prop := (∀ b, B b → b < w.heap.size) ∧ ∃ S : Sk, S.L = L ∧ Hp w S (S.f :: S.l) ∧ Pu S ∧ S.abs = ws ∧ ∀ b, S.blk b → B b
theorem be_congr {lt lt' : Nat → Bool} : ∀ {l : List Nat}, (∀ s ∈ l, lt' s = lt s) → be lt' l = be lt l
  | [], _ => rfl
  | b :: r, h => by
    unfold be
    rw [h b (by simp), be_congr fun s hs => h s (by simp [hs])]
theorem put_abs_go {S : Sk} {x : It} (h : Nat) (b R : Nat) : ∀ (l : List Nat), l.Nodup → be (S.lt x) l = some b → (S.x b).same x = true →
    putW x h (l.map fun t => (S.x t, S.g t)) = (x.wins (S.x b), l.map fun t => ((if x.wins (S.x b) then (S.put b R x).x t else S.x t), S.g t))
  | [], _, hb, _ => by cases hb
  | c :: r, hn, hb, hs => by
    have hn' := List.nodup_cons.1 hn
    unfold be at hb
    show (if (S.x c).less x then _ else _) = _
    cases hc : S.lt x c with
    | true =>
      rw [hc, if_pos rfl] at hb
      have hc' : (S.x c).less x = true := hc
      have ih := put_abs_go (S := S) h b R r hn'.2 hb hs
      have hbr := (be_mem _ _ _ hb).1
      have hcb : c ≠ b := fun e => hn'.1 (e ▸ hbr)
      rw [hc', if_pos rfl, ih]
      simp only [List.map_cons]
      rw [show (S.put b R x).x c = S.x c from up_other _ _ _ hcb]
      simp
    | false =>
      rw [hc] at hb
      simp at hb
      subst hb
      have hc' : (S.x c).less x = false := hc
      rw [hc', if_neg (by simp), hs, if_pos rfl]
      have hr : r.map (fun t => ((S.put c R x).x t, S.g t)) = r.map fun t => (S.x t, S.g t) := List.map_congr_left fun t ht => by
        have hne : t ≠ c := fun e => hn'.1 (e ▸ ht)
        rw [show (S.put c R x).x t = S.x t from up_other _ _ _ hne]
      cases hw : x.wins (S.x c) with
      | true => simp only [if_true, List.map_cons]; rw [hr, show (S.put c R x).x c = x from up_same _ _ _]
      | false => simp
theorem put_abs {S : Sk} (hp : Pu S) {x : It} (h b R : Nat) (hb : be (S.lt x) (S.lev 0) = some b) (hs : (S.x b).same x = true) :
    putW x h S.abs = (x.wins (S.x b), if x.wins (S.x b) then (S.put b R x).abs else S.abs) := by
  rw [lev0 hp] at hb
  have := put_abs_go h b R S.l (List.nodup_cons.1 hp.nodup).2 hb hs
  unfold Sk.abs
  rw [this]
  cases x.wins (S.x b) with
  | true => rfl
  | false => rfl
theorem in_abs_go {S : Sk} {x : It} (h t : Nat) : ∀ (l : List Nat), t ∉ l → (∀ s ∈ l, (S.x s).same x = false) →
    putW x h (l.map fun s => (S.x s, S.g s)) = (true, (ins (S.lt x) t l).map fun s => (up S.x t x s, up S.g t h s))
  | [], _, _ => by simp [putW, ins, up]
  | b :: r, ht, hs => by
    have hbt : b ≠ t := fun e => ht (by simp [e])
    have htr : t ∉ r := fun e => ht (by simp [e])
    have ih := in_abs_go (S := S) h t r htr fun s hs' => hs s (by simp [hs'])
    show (if (S.x b).less x then _ else _) = _
    unfold ins
    cases hb : S.lt x b with
    | true =>
      have hb' : (S.x b).less x = true := hb
      rw [hb', if_pos rfl, if_pos rfl, ih]
      simp only [List.map_cons]
      rw [up_other _ _ _ hbt, up_other _ _ _ hbt]
    | false =>
      have hb' : (S.x b).less x = false := hb
      have hsb := hs b (by simp)
      rw [hb', if_neg Bool.false_ne_true, hsb, if_neg Bool.false_ne_true, if_neg Bool.false_ne_true]
      simp only [List.map_cons]
      rw [up_same, up_same, up_other _ _ _ hbt, up_other _ _ _ hbt]
      rw [List.map_congr_left (f := fun s => (S.x s, S.g s)) (g := fun s => (up S.x t x s, up S.g t h s)) fun s hs' => by
        have hne : s ≠ t := fun e => htr (e ▸ hs')
        rw [up_other _ _ _ hne, up_other _ _ _ hne]]
theorem rise_one {S : Sk} (hp : Pu S) {s t : Nat} (hs : s ∈ S.l) (ht : t ∈ S.l) (h : (S.x s).same (S.x t) = true) : s = t := by
  have hr := hp.rise
  generalize S.l = l at *
  induction l with
  | nil => cases hs
  | cons b r ih =>
    have hr' := List.pairwise_cons.1 hr
    rcases List.mem_cons.1 hs with rfl | hs' <;> rcases List.mem_cons.1 ht with rfl | ht'
    · rfl
    · have := hr'.1 t ht'
      rw [less_iff] at this; rw [same_iff] at h; omega
    · have := hr'.1 s hs'
      rw [less_iff] at this; rw [same_iff] at h; omega
    · exact ih hs' ht' hr'.2
/-- A tower more beside the list. -/
def Sk.add (S : Sk) (t k i m : Nat) (x : It) : Sk := { S with k := up S.k t k, m := up S.m t m, i := up S.i t i, x := up S.x t x, nx := fun b j => if b = t then none else S.nx b j }
theorem hp_add {w w' : World} {S : Sk} {ts : List Nat} (h : Hp w S ts) {x : It} {m : Nat} (hm : 1 ≤ m ∧ m ≤ 6) (hb : Built w w' x m) : Hp w' (S.add (w.heap.size + 2) (w.heap.size + 1) w.heap.size m x) ((w.heap.size + 2) :: ts) := by
  have hlt : ∀ s ∈ ts, s ≠ w.heap.size + 2 := fun s hs e => by
    have := (h.tw s hs).tow.lt
    omega
  have hk := h.keep hb.b
  refine ⟨hk.head, fun s hs => ?_, fun s hs u hu e => ?_, fun s hs j hj b hb' => ?_⟩
  · rcases List.mem_cons.1 hs with rfl | hs'
    · refine ⟨?_, ?_, ?_, ?_⟩
      · unfold Sk.towV Sk.add
        simp only [up_same]
        exact hb.tow
      · unfold Sk.lnkV Sk.add
        simp only [up_same, if_true]
        exact hb.lnk
      · unfold Sk.add
        simp only [up_same]
        exact hb.itm
      · unfold Sk.add
        simp only [up_same]
        exact hm
    · have hne := hlt s hs'
      have hh := hk.tw s hs'
      refine ⟨?_, ?_, ?_, ?_⟩
      · unfold Sk.towV Sk.add
        simp only [up_other _ _ _ hne]
        exact hh.tow
      · unfold Sk.lnkV Sk.add
        simp only [up_other _ _ _ hne, hne, if_false]
        exact hh.lnk
      · unfold Sk.add
        simp only [up_other _ _ _ hne]
        exact hh.itm
      · unfold Sk.add
        simp only [up_other _ _ _ hne]
        exact hh.hm
  · have hkl : ∀ v ∈ ts, S.k v < w.heap.size := fun v hv => (h.tw v hv).lnk.lt
    change up S.k _ _ s = up S.k _ _ u at e
    rcases List.mem_cons.1 hs with rfl | hs' <;> rcases List.mem_cons.1 hu with rfl | hu'
    · rfl
    · rw [up_same, up_other _ _ _ (hlt u hu')] at e
      have := hkl u hu'; omega
    · rw [up_same, up_other _ _ _ (hlt s hs')] at e
      have := hkl s hs'; omega
    · rw [up_other _ _ _ (hlt s hs'), up_other _ _ _ (hlt u hu')] at e
      exact h.kk s hs' u hu' e
  · change (if s = w.heap.size + 2 then none else S.nx s j) = some b at hb'
    rcases List.mem_cons.1 hs with rfl | hs'
    · simp at hb'
    · rw [if_neg (hlt s hs')] at hb'
      change j < up S.m _ _ s at hj
      rw [up_other _ _ _ (hlt s hs')] at hj
      exact List.mem_cons_of_mem _ (h.tgt s hs' j hj b hb')
theorem pu_add {S : Sk} (hp : Pu S) (t k i m : Nat) (x : It) (ht : t ∉ S.f :: S.l) : Pu (S.add t k i m x) ∧ (S.add t k i m x).abs = S.abs := by
  have hf : S.f ≠ t := fun e => ht (by simp [e])
  have hl : ∀ s ∈ S.l, s ≠ t := fun s hs e => ht (by rw [← e]; simp [hs])
  have hx : ∀ s ∈ S.l, (S.add t k i m x).x s = S.x s := fun s hs => up_other _ _ _ (hl s hs)
  refine ⟨⟨hp.nodup, ?_, fun j hj => ?_, fun s hs => ?_, fun s hs => ?_, ?_, hp.len⟩, ?_⟩
  · refine hp.rise.imp_of_mem fun {a b} ha hb hab => ?_
    rw [hx a ha, hx b hb]; exact hab
  · refine chain_congr (fun s hs => ?_) (hp.chain j hj)
    show (if s = t then none else S.nx s j) = _
    rw [if_neg]
    rcases List.mem_cons.1 hs with rfl | hs'
    · exact hf
    · exact hl s (lev_mem.1 hs').1
  · show 1 ≤ S.g s ∧ S.g s ≤ up S.m t m s
    rw [up_other _ _ _ (hl s hs)]; exact hp.g s hs
  · rw [hx s hs]; exact hp.wf s hs
  · show up S.m t m S.f = 6
    rw [up_other _ _ _ hf]; exact hp.mf
  · unfold Sk.abs
    refine List.map_congr_left fun s hs => ?_
    show ((S.add t k i m x).x s, S.g s) = _
    rw [hx s hs]
theorem neqT (w : World) {a b : Nat} {ca cb : Array Value} {ta tb : TypeId} (hne : a ≠ b) (ha : Blk w a ca ta) (hb : Blk w b cb tb) :
    (binOp .neq 75 (.pointer (some ⟨a, 0, none⟩)) (.pointer (some ⟨b, 0, none⟩))).run Tryd.prog w = .ok (.bool true) w := by
  obtain ⟨j, hj, hj2⟩ : ∃ j, Tryd.prog.info? 104 = some j ∧ j.size = 2 := by
    have e : (Tryd.prog.info? 104).map (fun i => i.size) = some 2 := by kernel_rfl
    obtain ⟨j, h1, h2⟩ := Option.map_eq_some_iff.1 e
    exact ⟨j, h1, h2⟩
  have hs : (sameAddr (⟨a, 0, none⟩ : Addr) ⟨b, 0, none⟩).run Tryd.prog w = .ok false w := run_sameAddr_other (hne := fun e => hne (congrArg Addr.block e)) (ha := ha) (hb := hb)
  have h : ∀ d : Nat, (Op.equalIn (d + 1) 75 (.pointer (some ⟨a, 0, none⟩)) (.pointer (some ⟨b, 0, none⟩))).run Tryd.prog w = .ok false w := fun d => by
    simp [Op.equalIn, run_underlying Tryd.underlying75, sizeOf, typeInfo, hj, hj2, hs]
  simp only [binOp]
  simp [Op.equal, Op.maxDepth, h 9999]
theorem eqT (w : World) (a : Nat) : (binOp .neq 75 (.pointer (some ⟨a, 0, none⟩)) (.pointer (some ⟨a, 0, none⟩))).run Tryd.prog w = .ok (.bool false) w := by
  obtain ⟨j, hj⟩ : ∃ j, Tryd.prog.info? 104 = some j := by
    have e : (Tryd.prog.info? 104).map (fun i => i.size) = some 2 := by kernel_rfl
    obtain ⟨j, h1, h2⟩ := Option.map_eq_some_iff.1 e
    exact ⟨j, h1⟩
  exact Go.Lib.run_neq_ptr_same w ⟨a, 0, none⟩ Tryd.underlying75 hj

end Go.Proofs.YtjpoahnecbefaaaDoor.Clep
