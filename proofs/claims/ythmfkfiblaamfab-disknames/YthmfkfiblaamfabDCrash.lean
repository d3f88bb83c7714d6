/- What a Crash of a Disk comes to, and the keys of its files in order. No conditions but the model's bounds. -/
import Derived.Test.YthmfkfiblaamfabDCrashF
namespace Go.Proofs.Ythmfkfiblaamfab.Clep
open Go.RowKit Go.Maps Go.Sort Go.Shelf
set_option linter.unusedVariables false

def crashAll : List Fl → List Int → List Fl × List Int
  | [], ks => ([], ks)
  | f :: r, ks => (crashF f ks :: (crashAll r (restK f ks)).1, (crashAll r (restK f ks)).2)
def evenK : List Int → Bool
  | [] => true
  | k :: _ => k.tmod 2 == 0
def doAll : List Ch → DataW Unit → List Int → DataW Unit
  | [], D, _ => D
  | c :: r, D, ks => doAll r (if evenK ks then doS D c else D) ks.tail
def crashS (S : St) (ks : List Int) : St :=
  { settleS { S with files := (crashAll S.files ks).1, names := doAll S.since S.lasting (crashAll S.files ks).2, lasting := doAll S.since S.lasting (crashAll S.files ks).2, since := [] } with stop := 0, fail := 0, dead := false }
theorem crashAll_snoc : ∀ (l : List Fl) (f : Fl) (ks : List Int), crashAll (l ++ [f]) ks = ((crashAll l ks).1 ++ [crashF f (crashAll l ks).2], restK f (crashAll l ks).2)
  | [], f, ks => rfl
  | g :: l, f, ks => by
    rw [List.cons_append]
    simp only [crashAll]
    rw [crashAll_snoc l f (restK g ks)]
    rfl
theorem doAll_snoc : ∀ (l : List Ch) (c : Ch) (D : DataW Unit) (ks : List Int), doAll (l ++ [c]) D ks = if evenK (ks.drop l.length) then doS (doAll l D ks) c else doAll l D ks
  | [], c, D, ks => rfl
  | d :: l, c, D, ks => by
    rw [List.cons_append]
    simp only [doAll, List.length_cons]
    rw [doAll_snoc l c _ ks.tail, List.drop_tail]
theorem crashAll_nums : ∀ (l : List Fl) (ks : List Int), (crashAll l ks).1.map (·.num) = l.map (·.num)
  | [], ks => rfl
  | f :: l, ks => by
    simp only [crashAll, List.map_cons]
    rw [crashAll_nums l]
    rfl
theorem upd_mid {l r : List Fl} {f : Fl} {g : Fl → Fl} (h : (l ++ f :: r).Pairwise fun f g => f.num < g.num) : updF (l ++ f :: r) f.num g = l ++ g f :: r := by
  rw [List.pairwise_append] at h
  obtain ⟨_, h2, h3⟩ := h
  rw [List.pairwise_cons] at h2
  unfold updF
  rw [List.map_append, List.map_cons, if_pos rfl]
  congr 1
  · conv => rhs; rw [← List.map_id l]
    refine List.map_congr_left fun x hx => ?_
    have := h3 x hx f List.mem_cons_self
    rw [if_neg (by omega)]
    rfl
  · congr 1
    conv => rhs; rw [← List.map_id r]
    refine List.map_congr_left fun x hx => ?_
    have := h2.1 x hx
    rw [if_neg (by omega)]
    rfl

theorem keys_any (b : Nat) (w : World) : Calls Try.prog 32 #[.map (some b)] w fun e w' => e = .returned (.func (.func 46) #[] #[.pointer (some ⟨w.heap.size, 0, none⟩)]) ∧ w' = w.alloc (.cells #[.map (some b)] 47) :=
  (callsIn_wide (n := 5)).1 (AnyZI.keys_in Try.keysA Fence.wide 5 trivial rfl (some b) w)
theorem sortsA (m : Nat) : AnyZI.SortsIn Try.prog Try.sortedA_ren Fence.wide m :=
  ⟨fun blk off cap ss W hH hblk hsz => callsIn_wide.2 (AnyM.slices_Sort_int Try.sortA blk off cap ss W hH hblk hsz),
   fun p cap W => callsIn_wide.2 (AnyM.slices_Sort_int_none Try.sortA p cap W)⟩
set_option maxHeartbeats 1000000 in
theorem sorted_any (b nn : Nat) (D : DataW Unit) (w : World) (hown : w.ownsMap Try.prog 3 ptrElem b nn D) (hmax : Maps.size D ≤ maxLen) (hbytes : Maps.size D * 8 ≤ 140737488355328) :
    Calls Try.prog 31 #[.func (.func 46) #[] #[.pointer (some ⟨w.heap.size, 0, none⟩)]] (w.alloc (.cells #[.map (some b)] 47)) fun e w' => ∃ (v : Value) (ss : List Int), e = .returned v ∧ ss.Perm (intKeys D) ∧
      w'.ownsRow (w.heap.size + 1) 3 1 v ss.length ((ss.mergeSort (fun x y => decide (x ≤ y))).map encZ) ∧ Below (w.heap.size + 1) (w.alloc (.cells #[.map (some b)] 47)) w' := by
  have hbl := hown.lt
  have hseq : SeqGives Fence.wide 2 Try.prog 46 #[.pointer (some ⟨w.heap.size, 0, none⟩)] encZ (fun ss => ss.Perm (intKeys D)) (Maps.size D) (w.alloc (.cells #[.map (some b)] 47)) :=
    AnyZI.keys_gives (ρ := Try.keysA_ren) { Try.keysA with } Fence.wide _ trivial rfl (by omega) w.heap.size b nn D _ (by simp) (by simp) (by
      obtain ⟨es, clock, hb, Ft, hs, hD⟩ := hown
      exact ⟨es, clock, (Below.heap_alloc _ _ b hbl).trans hb, Ft, hs, hD⟩)
  have cS := AnyZI.sorted_in Try.sortedA Fence.wide 5 trivial trivial trivial trivial rfl (by omega) (sortsA _) (enters_of Try.func45 (by kernel_rfl) rfl) 46 #[.pointer (some ⟨w.heap.size, 0, none⟩)] trivial (enters_of Try.func46 (by kernel_rfl) rfl) _ _ hmax hbytes _ hseq
  change CallsIn _ _ Try.prog 31 _ _ _ at cS
  refine ((callsIn_wide (n := 5)).1 cS).mono ?_
  rintro e w' ⟨v, ss, rfl, hS, hrow, hnil, hb⟩
  have hsz : (w.alloc (.cells #[.map (some b)] 47)).heap.size = w.heap.size + 1 := by simp
  rw [hsz] at hrow hb
  exact ⟨v, ss, rfl, hS, hrow, hb⟩
theorem sort_files {fs : List Fl} {ss : List Int} {D : DataW Unit} (hp : (fs.map fun f => (f.num : Int)).Perm (intKeys D)) (hs : ss.Perm (intKeys D)) (hr : fs.Pairwise fun f g => f.num < g.num) : ss.mergeSort (fun x y => decide (x ≤ y)) = fs.map fun f => (f.num : Int) := by
  rw [show (fun x y : Int => decide (x ≤ y)) = leI from rfl, mergeSort_of_perm_i (hs.trans hp.symm)]
  refine List.mergeSort_of_pairwise ?_
  rw [List.pairwise_map]
  exact hr.imp (fun {a b} h => by simp only [leI, decide_eq_true_eq]; omega)

end Go.Proofs.Ythmfkfiblaamfab.Clep
