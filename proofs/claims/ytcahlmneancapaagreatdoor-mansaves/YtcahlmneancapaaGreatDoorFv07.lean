/- What crash of a file does when called (a walk over the translated program): for any file of at most 250000 bytes, any numbers. -/
import Derived.Test.YtcahlmneancapaaGreatDoorFv06
namespace Go.Proofs.YtcahlmneancapaaGreatDoor.Clep
open Go.RowKit Go.Maps
set_option linter.unusedVariables false
set_option maxRecDepth 10000

def keepN (f : Fl) (ks : List Int) : Nat := if f.bs.length = f.lasts then 0 else match ks with
  | [] => f.bs.length - f.lasts
  | k :: _ => (k % ((f.bs.length - f.lasts : Nat) + 1 : Int)).toNat
def restK (f : Fl) (ks : List Int) : List Int := if f.bs.length = f.lasts then ks else ks.tail
def crashF (f : Fl) (ks : List Int) : Fl := { f with lasts := f.lasts + keepN f ks, bs := f.bs.take (f.lasts + keepN f ks) }
theorem keepN_le (f : Fl) (ks : List Int) (h : f.lasts ≤ f.bs.length) : f.lasts + keepN f ks ≤ f.bs.length := by
  unfold keepN
  split
  · omega
  · cases ks with
    | nil => simp only; omega
    | cons k r =>
      simp only
      have h1 := Int.emod_lt_of_pos k (show (0 : Int) < ((f.bs.length - f.lasts : Nat) : Int) + 1 by omega)
      omega

/-- A file's last step of a crash: its bytes are cut. -/
structure Near (b V : Nat) (Q : Nat → Prop) (ao : Option Addr) (cap L m : Nat) (ks : List Int) (w w5 : World) : Prop where
  row : w5.heap[b]? = some (.cells #[.slice ao L cap, .int .i64 m] 109 (0, 0))
  oth : ∀ i, i ≠ b → i ≠ V → w5.heap[i]? = w.heap[i]?
  size : w5.heap.size = w.heap.size
  os : w5.os = w.os ∧ w5.tape = w.tape ∧ w5.output = w.output
  var : ∃ v', Var1 w5 V v' ∧ NumV Q w5 v' ks
theorem near_set {b V : Nat} {Q : Nat → Prop} {ao : Option Addr} {cap L A m : Nat} {v' : Value} {ks : List Int} {w W : World} (hW : W.heap[b]? = some (.cells #[.slice ao L cap, .int .i64 A] 109 (0, 0))) (h1 : One V w W) (hV : Var1 W V v') (hk : NumV Q W v' ks) (hbV : b ≠ V) (hQ : ¬ Q b) :
    Near b V Q ao cap L m ks w (W.setCell ⟨b, 1, none⟩ (.int .i64 m)) := by
  have ho : ∀ i, i ≠ b → (W.setCell ⟨b, 1, none⟩ (.int .i64 m)).heap[i]? = W.heap[i]? := fun i hi => heap_setCell_other _ ⟨b, 1, none⟩ i _ hi
  refine ⟨by rw [heap_setCell_same W b 1 _ _ _ hW]; rfl, fun i hi hiV => (ho i hi).trans (h1.block i hiV), by simp [h1.size], ⟨h1.os, h1.tape, h1.output⟩, v', ?_, hk.keep fun i _ hi => ho i (fun e => hQ (by rw [← e]; exact hi))⟩
  obtain ⟨T, hT⟩ := hV
  exact ⟨T, (ho V hbV.symm).trans hT⟩
theorem near_end {b V : Nat} {Q : Nat → Prop} {ao : Option Addr} {cap L m : Nat} {ks : List Int} {w w5 : World} (h : Near b V Q ao cap L m ks w w5) (hbV : b ≠ V) (hQ : ¬ Q b) :
    (w5.setCell ⟨b, 0, none⟩ (.slice ao m cap)).heap[b]? = some (.cells #[.slice ao m cap, .int .i64 m] 109 (0, 0)) ∧ (∀ i, i ≠ b → i ≠ V → (w5.setCell ⟨b, 0, none⟩ (.slice ao m cap)).heap[i]? = w.heap[i]?) ∧ (w5.setCell ⟨b, 0, none⟩ (.slice ao m cap)).heap.size = w.heap.size ∧
      ((w5.setCell ⟨b, 0, none⟩ (.slice ao m cap)).os = w.os ∧ (w5.setCell ⟨b, 0, none⟩ (.slice ao m cap)).tape = w.tape ∧ (w5.setCell ⟨b, 0, none⟩ (.slice ao m cap)).output = w.output) ∧
      ∃ v', Var1 (w5.setCell ⟨b, 0, none⟩ (.slice ao m cap)) V v' ∧ NumV Q (w5.setCell ⟨b, 0, none⟩ (.slice ao m cap)) v' ks := by
  have ho : ∀ i, i ≠ b → (w5.setCell ⟨b, 0, none⟩ (.slice ao m cap)).heap[i]? = w5.heap[i]? := fun i hi => heap_setCell_other _ ⟨b, 0, none⟩ i _ hi
  obtain ⟨v', ⟨T, hT⟩, hk⟩ := h.var
  exact ⟨by rw [heap_setCell_same w5 b 0 _ _ _ h.row]; rfl, fun i hi hiV => (ho i hi).trans (h.oth i hi hiV), by simp [h.size], h.os, v', ⟨T, (ho V hbV.symm).trans hT⟩, hk.keep fun i _ hi => ho i (fun e => hQ (by rw [← e]; exact hi))⟩
theorem keepN_none (f : Fl) (h : f.bs.length ≠ f.lasts) : keepN f [] = f.bs.length - f.lasts := by unfold keepN; rw [if_neg h]
theorem keepN_some (f : Fl) (k : Int) (r : List Int) (h : f.bs.length ≠ f.lasts) : keepN f (k :: r) = (k % ((f.bs.length - f.lasts : Nat) + 1 : Int)).toNat := by unfold keepN; rw [if_neg h]

set_option maxHeartbeats 400000 in
set_option maxRecDepth 8000 in
theorem crash_file (b V : Nat) (Q : Nat → Prop) (ao : Option Addr) (cap : Nat) (f : Fl) (v : Value) (ks : List Int) (w : World) (hb : w.heap[b]? = some (.cells #[.slice ao f.bs.length cap, .int .i64 f.lasts] 109 (0, 0))) (hc : f.bs.length ≤ cap) (hcm : cap ≤ maxLen) (hn : ao = none → f.bs.length = 0 ∧ cap = 0)
    (hao : ∀ x, ao = some x → x.spot = none) (hl : f.bs.length ≤ 250000) (hla : f.lasts ≤ f.bs.length) (hV : Var1 w V v) (hk : NumV Q w v ks) (hbV : b ≠ V) (hQ : ¬ Q b) (hQV : ¬ Q V) :
    Calls Tryz.prog 61 #[.pointer (some ⟨b, 0, none⟩), .pointer (some ⟨V, 0, none⟩)] w fun e w' => e = .returned (.tuple #[]) ∧
      w'.heap[b]? = some (.cells #[.slice ao (f.lasts + keepN f ks) cap, .int .i64 (f.lasts + keepN f ks : Nat)] 109 (0, 0)) ∧ (∀ i, i ≠ b → i ≠ V → w'.heap[i]? = w.heap[i]?) ∧ w'.heap.size = w.heap.size ∧ (w'.os = w.os ∧ w'.tape = w.tape ∧ w'.output = w.output) ∧
      ∃ v', Var1 w' V v' ∧ NumV Q w' v' (restK f ks) := by
  have HV := hide hV
  have HK := hide hk
  have HB := hide hb
  have hKL := hide (keepN_le f ks hla)
  have c0 := cell_of (i := 0) hb rfl
  have c1 := cell_of (i := 1) hb rfl
  simp at c0 c1
  clear hV hk hb
  obtain ⟨L, hL⟩ : ∃ L, f.bs.length = L := ⟨_, rfl⟩
  obtain ⟨A, hA⟩ : ∃ A, f.lasts = A := ⟨_, rfl⟩
  have HL := hide hL
  have HA := hide hA
  rw [hL] at c0 hc hn hl hla
  rw [hA] at c1 hla
  clear hL hA
  have HB' := hide (show w.heap[b]? = some (.cells #[.slice ao L cap, .int .i64 A] 109 (0, 0)) by rw [← HL.out, ← HA.out]; exact HB.out)
  have f0 := frozen_of_row w b 0 _ _ HB'.out
  have f1 := frozen_of_row w b 1 _ _ HB'.out
  by_cases h0 : L = A
  · subst h0
    go_enter Tryz.func61, Tryz.ntmps61
    go_wp2
    go_quiet (fail)
    have hK0 : keepN f ks = 0 := by unfold keepN; rw [if_pos (by rw [HL.out, HA.out])]
    have hR0 : restK f ks = ks := by unfold restK; rw [if_pos (by rw [HL.out, HA.out])]
    have NE := hide (near_set (m := L) (W := w.drewN nq) HB'.out (⟨rfl, rfl, rfl, rfl, fun _ _ => rfl⟩ : One V w (w.drewN nq)) HV.out HK.out hbV hQ)
    have HK0 := hide hK0
    have HR0 := hide hR0
    clear hK0 hR0
    go_wp2
    generalize (w.drewN nq).setCell ⟨b, 1, none⟩ (.int .i64 L) = w5 at *
    have d0 := cell_of (i := 0) NE.out.row rfl
    have d1 := cell_of (i := 1) NE.out.row rfl
    have e0 := frozen_of_row w5 b 0 _ _ NE.out.row
    simp at d0 d1
    cases ao with
    | none =>
      obtain ⟨rfl, rfl⟩ := hn rfl
      go_region
      go_end0
      rw [HK0.out, HR0.out, HA.out]
      exact ⟨rfl, near_end NE.out hbV hQ⟩
    | some x =>
      obtain ⟨xb, xo, xs⟩ := x
      obtain rfl : xs = none := hao _ rfl
      go_region
      go_end0
      rw [HK0.out, HR0.out, HA.out]
      exact ⟨rfl, near_end NE.out hbV hQ⟩
  · have hpos : (0 : Int) < (L : Int) - (A : Int) := by omega
    have hL0 : ¬ L = 0 := by omega
    have hdiff : f.bs.length ≠ f.lasts := by rw [HL.out, HA.out]; exact h0
    have HDf := hide hdiff
    clear hdiff
    cases ks with
    | nil =>
      have NX := hide (fun n => dnext_any Q V v [] (w.drewN n) HV.out HK.out)
      have hsum : (A : Int) + ((L : Int) - (A : Int)) = (L : Int) := by omega
      go_enter Tryz.func61, Tryz.ntmps61
      go_wp2
      go_quiet (fail)
      go_wp2_with fail
      refine (NX.out nq).mono ?_
      rintro e w1 ⟨rfl, O1, v1, V1, N1⟩
      have HR1 := hide (show w1.heap[b]? = _ from (O1.block b hbV).trans HB'.out)
      have k1 := cell_of (i := 1) HR1.out rfl
      simp at k1
      have g1 := frozen_of_row w1 b 1 _ _ HR1.out
      have NE := hide (near_set (m := L) HR1.out (⟨O1.os, O1.tape, O1.output, O1.size, O1.block⟩ : One V w w1) V1 N1 hbV hQ)
      have HK0 := hide (show f.lasts + keepN f [] = L by rw [keepN_none f HDf.out, HL.out, HA.out]; omega)
      have HR0 := hide (show restK f [] = [].tail by unfold restK; rw [if_neg HDf.out])
      clear O1 V1 N1
      go_wp2
      generalize (w1).setCell ⟨b, 1, none⟩ (.int .i64 L) = w5 at *
      have d0 := cell_of (i := 0) NE.out.row rfl
      have d1 := cell_of (i := 1) NE.out.row rfl
      have e0 := frozen_of_row w5 b 0 _ _ NE.out.row
      simp at d0 d1
      cases ao with
      | none => exact absurd (hn rfl).1 hL0
      | some x =>
        obtain ⟨xb, xo, xs⟩ := x
        obtain rfl : xs = none := hao _ rfl
        go_region
        go_end0
        rw [HK0.out, HR0.out]
        exact ⟨rfl, near_end NE.out hbV hQ⟩
    | cons k r =>
      obtain ⟨m, hm⟩ : ∃ m : Nat, k % ((L : Int) - (A : Int) + 1) = m := by
        have := Int.emod_nonneg k (show (L : Int) - (A : Int) + 1 ≠ 0 by omega)
        exact ⟨_, (Int.toNat_of_nonneg this).symm⟩
      have hml := Int.emod_lt_of_pos k (show (0 : Int) < (L : Int) - (A : Int) + 1 by omega)
      rw [hm] at hml
      have NX := hide (fun n => dnext_any Q V v (k :: r) (w.drewN n) HV.out HK.out)
      have hkw : (Lit.int .i64 k).wf = true := by obtain ⟨_, _, _, _, _, h4, _⟩ := HK.out; exact h4 k List.mem_cons_self
      have MO := hide (fun W => modulo_any k ((L : Int) - (A : Int) + 1) W (by omega) (by omega) hkw)
      have HM := hide hm
      clear hkw hm
      go_enter Tryz.func61, Tryz.ntmps61
      go_wp2
      go_quiet (fail)
      go_wp2_with fail
      refine (NX.out nq).mono ?_
      rintro e w1 ⟨he, O1, v1, V1, N1⟩
      obtain rfl : e = .returned (.tuple #[.int .i64 k, .bool true]) := he
      have HR1 := hide (show w1.heap[b]? = _ from (O1.block b hbV).trans HB'.out)
      have k1 := cell_of (i := 1) HR1.out rfl
      simp at k1
      have g1 := frozen_of_row w1 b 1 _ _ HR1.out
      have NE := hide (show Near b V Q ao cap L (A + m) _ w (w1.setCell ⟨b, 1, none⟩ (.int .i64 ((A : Int) + (m : Int)))) from near_set (m := A + m) HR1.out (⟨O1.os, O1.tape, O1.output, O1.size, O1.block⟩ : One V w w1) V1 N1 hbV hQ)
      have HK0 := hide (show f.lasts + keepN f (k :: r) = A + m by
        rw [keepN_some f k r HDf.out, HL.out, HA.out, show ((L - A : Nat) : Int) + 1 = (L : Int) - (A : Int) + 1 from by omega, HM.out]; simp)
      have HR0 := hide (show restK f (k :: r) = (k :: r).tail by unfold restK; rw [if_neg HDf.out])
      clear O1 V1 N1
      go_wp2_with fail
      refine (MO.out w1).mono ?_
      rintro e w2 ⟨rfl, rfl⟩
      rw [HM.out]
      go_wp2
      generalize (w2).setCell ⟨b, 1, none⟩ (.int .i64 ((A : Int) + (m : Int))) = w5 at *
      have d0 := cell_of (i := 0) NE.out.row rfl
      have d1 := cell_of (i := 1) NE.out.row rfl
      have e0 := frozen_of_row w5 b 0 _ _ NE.out.row
      simp at d0 d1
      cases ao with
      | none => exact absurd (hn rfl).1 hL0
      | some x =>
        obtain ⟨xb, xo, xs⟩ := x
        obtain rfl : xs = none := hao _ rfl
        go_region
        go_end0
        rw [HK0.out, HR0.out]
        exact ⟨rfl, near_end NE.out hbV hQ⟩

end Go.Proofs.YtcahlmneancapaaGreatDoor.Clep

/- What a Crash of a Disk comes to, and the keys of its files in order. No conditions but the model's bounds. -/
namespace Go.Proofs.YtcahlmneancapaaGreatDoor.Clep
open Go.RowKit Go.Maps Go.Sort Go.Shelf
set_option linter.unusedVariables false
set_option maxRecDepth 10000

def crashAll : List Fl → List Int → List Fl × List Int
  | [], ks => ([], ks)
  | f :: r, ks => (crashF f ks :: (crashAll r (restK f ks)).1, (crashAll r (restK f ks)).2)
def evenK : List Int → Bool
  | [] => true
  | k :: _ => k.tmod 2 == 0
def doAll : List Chn → DataW Unit → List Int → DataW Unit
  | [], D, _ => D
  | c :: r, D, ks => doAll r (if evenK ks then doS D c else D) ks.tail
def crashS (S : St) (ks : List Int) : St :=
  { settleS { S with files := (crashAll S.files ks).1, names := doAll S.since S.lasting (crashAll S.files ks).2, lasting := doAll S.since S.lasting (crashAll S.files ks).2, since := [] } with stop := 0, fail := 0, dead := false }
theorem crashAll_snoc : ∀ (l : List Fl) (f : Fl) (ks : List Int), crashAll (l ++ [f]) ks = ((crashAll l ks).1 ++ [crashF f (crashAll l ks).2], restK f (crashAll l ks).2)
  | [], f, ks => rfl
  | g :: l, f, ks => by
    rw [List.cons_append]
    simp only [crashAll]
    rw [crashAll_snoc l f (restK g ks)]
    rfl
theorem doAll_snoc : ∀ (l : List Chn) (c : Chn) (D : DataW Unit) (ks : List Int), doAll (l ++ [c]) D ks = if evenK (ks.drop l.length) then doS (doAll l D ks) c else doAll l D ks
  | [], c, D, ks => rfl
  | d :: l, c, D, ks => by
    rw [List.cons_append]
    simp only [doAll, List.length_cons]
    rw [doAll_snoc l c _ ks.tail, List.drop_tail]
theorem crashAll_nums : ∀ (l : List Fl) (ks : List Int), (crashAll l ks).1.map (·.num) = l.map (·.num)
  | [], ks => rfl
  | f :: l, ks => by
    simp only [crashAll, List.map_cons]
    rw [crashAll_nums l]
    rfl
theorem upd_mid {l r : List Fl} {f : Fl} {g : Fl → Fl} (h : (l ++ f :: r).Pairwise fun f g => f.num < g.num) : updF (l ++ f :: r) f.num g = l ++ g f :: r := by
  rw [List.pairwise_append] at h
  obtain ⟨_, h2, h3⟩ := h
  rw [List.pairwise_cons] at h2
  unfold updF
  rw [List.map_append, List.map_cons, if_pos rfl]
  congr 1
  · conv => rhs; rw [← List.map_id l]
    refine List.map_congr_left fun x hx => ?_
    have := h3 x hx f List.mem_cons_self
    rw [if_neg (by omega)]
    rfl
  · congr 1
    conv => rhs; rw [← List.map_id r]
    refine List.map_congr_left fun x hx => ?_
    have := h2.1 x hx
    rw [if_neg (by omega)]
    rfl

theorem keys_any (b : Nat) (w : World) : Calls Tryz.prog 60 #[.map (some b)] w fun e w' => e = .returned (.func (.func 100) #[] #[.pointer (some ⟨w.heap.size, 0, none⟩)]) ∧ w' = w.alloc (.cells #[.map (some b)] 68) :=
  (callsIn_wide (n := 5)).1 (AnyZI.keys_in Tryz.keysA Fence.wide 5 trivial rfl (some b) w)
theorem sortsA (m : Nat) : AnyZI.SortsIn Tryz.prog Tryz.sortedA_ren Fence.wide m :=
  ⟨fun blk off cap ss W hH hblk hsz => callsIn_wide.2 (AnyM.slices_Sort_int Tryz.sortA blk off cap ss W hH hblk hsz),
   fun p cap W => callsIn_wide.2 (AnyM.slices_Sort_int_none Tryz.sortA p cap W)⟩
set_option maxHeartbeats 1000000 in
theorem sorted_any (b nn : Nat) (D : DataW Unit) (w : World) (hown : w.ownsMap Tryz.prog 3 ptrElem b nn D) (hmax : Maps.size D ≤ maxLen) (hbytes : Maps.size D * 8 ≤ 140737488355328) :
    Calls Tryz.prog 59 #[.func (.func 100) #[] #[.pointer (some ⟨w.heap.size, 0, none⟩)]] (w.alloc (.cells #[.map (some b)] 68)) fun e w' => ∃ (v : Value) (ss : List Int), e = .returned v ∧ ss.Perm (intKeys D) ∧
      w'.ownsRow (w.heap.size + 1) 3 1 v ss.length ((ss.mergeSort (fun x y => decide (x ≤ y))).map encZ) ∧ Below (w.heap.size + 1) (w.alloc (.cells #[.map (some b)] 68)) w' := by
  have hbl := hown.lt
  have hseq : SeqGives Fence.wide 2 Tryz.prog 100 #[.pointer (some ⟨w.heap.size, 0, none⟩)] encZ (fun ss => ss.Perm (intKeys D)) (Maps.size D) (w.alloc (.cells #[.map (some b)] 68)) :=
    AnyZI.keys_gives (ρ := Tryz.keysA_ren) { Tryz.keysA with } Fence.wide _ trivial rfl (by omega) w.heap.size b nn D _ (by simp) (by simp) (by
      obtain ⟨es, clock, hb, Ft, hs, hD⟩ := hown
      exact ⟨es, clock, (Below.heap_alloc _ _ b hbl).trans hb, Ft, hs, hD⟩)
  have cS := AnyZI.sorted_in Tryz.sortedA Fence.wide 5 trivial trivial trivial trivial rfl (by omega) (sortsA _) (enters_of Tryz.func99 (by kernel_rfl) rfl) 100 #[.pointer (some ⟨w.heap.size, 0, none⟩)] trivial (enters_of Tryz.func100 (by kernel_rfl) rfl) _ _ hmax hbytes _ hseq
  change CallsIn _ _ Tryz.prog 59 _ _ _ at cS
  refine ((callsIn_wide (n := 5)).1 cS).mono ?_
  rintro e w' ⟨v, ss, rfl, hS, hrow, hnil, hb⟩
  have hsz : (w.alloc (.cells #[.map (some b)] 68)).heap.size = w.heap.size + 1 := by simp
  rw [hsz] at hrow hb
  exact ⟨v, ss, rfl, hS, hrow, hb⟩
theorem sort_files {fs : List Fl} {ss : List Int} {D : DataW Unit} (hp : (fs.map fun f => (f.num : Int)).Perm (intKeys D)) (hs : ss.Perm (intKeys D)) (hr : fs.Pairwise fun f g => f.num < g.num) : ss.mergeSort (fun x y => decide (x ≤ y)) = fs.map fun f => (f.num : Int) := by
  rw [show (fun x y : Int => decide (x ≤ y)) = leI from rfl, mergeSort_of_perm_i (hs.trans hp.symm)]
  refine List.mergeSort_of_pairwise ?_
  rw [List.pairwise_map]
  exact hr.imp (fun {a b} h => by simp only [leI, decide_eq_true_eq]; omega)

end Go.Proofs.YtcahlmneancapaaGreatDoor.Clep

/- What Crash of a Disk does when called: what the walk needs of one file, of one change of names, and at its ends. For any Disk of at most 2^40 calls, any numbers. -/
namespace Go.Proofs.YtcahlmneancapaaGreatDoor.Clep
open Go.RowKit Go.Maps
set_option linter.unusedVariables false
set_option maxRecDepth 10000

def tagV (G : Gh) (V : Nat) : Gh := { G with τ := fun i => if i = V then 6 else G.τ i }
theorem tag_new {R : Nat} {S : St} {G : Gh} {w : World} (h : DiskIs w R S G) (o : Obj) : DiskIs (w.alloc o) R S (tagV G w.heap.size) ∧ Kept G (tagV G w.heap.size) w (w.alloc o) := by
  have hb := (Below.refl w.heap.size w).alloc (Nat.le_refl _) o
  have ht : ∀ i, G.τ i ≠ 0 → (tagV G w.heap.size).τ i = G.τ i := fun i h0 => by
    show (if i = w.heap.size then 6 else G.τ i) = _
    rw [if_neg]
    rintro rfl
    exact h0 (h.top _ (Nat.le_refl _))
  have h' := h.below hb
  refine ⟨⟨h'.row, h'.fm, h'.nm, h'.lm, h'.sc, fun f hf => (h'.files f hf).retag rfl fun i hi => ht i (by omega), ?_, ?_, ?_, ?_, ?_, ?_, h.ok⟩, ⟨rfl, rfl, rfl, by simp, fun i hi _ => Below.heap_alloc w o i hi, fun i hi h0 => ?_⟩⟩
  · rw [ht R (by rw [h.tR]; omega)]; exact h.tR
  · exact (ht G.bf (by rw [h.tf]; omega)).trans h.tf
  · exact (ht G.bn (by rw [h.tn]; omega)).trans h.tn
  · exact (ht G.bl (by rw [h.tl]; omega)).trans h.tl
  · exact fun g hg => (ht g (by rw [h.ts g hg]; omega)).trans (h.ts g hg)
  · intro i hi
    show (if i = w.heap.size then 6 else G.τ i) = 0
    simp at hi
    rw [if_neg (by omega)]
    exact h.top i (by omega)
  · show (if i = w.heap.size then 6 else G.τ i) = 0
    rw [if_neg (by omega)]
    exact h0
theorem own_take {w w' : World} {ao : Option Addr} {L m cap : Nat} {zs : List Int} (h : Own w 0 (.slice ao L cap) zs) (hl : zs.length = L) (hm : m ≤ L) (hk : ∀ g, (Value.slice ao L cap).ownBlock = some g → w'.heap[g]? = w.heap[g]?) : Own w' 0 (.slice ao m cap) (zs.take m) := by
  have hlen : (zs.take m).length = m := by rw [List.length_take]; omega
  obtain ⟨h1, ⟨h2, h3⟩ | ⟨g, cap', cur, h2, hg, hh, hnc, hcm, hcs, hx⟩⟩ := h
  · injection h2 with e1 e2 e3
    subst e1 e3
    have hm0 : m = 0 := by omega
    subst hm0
    exact ⟨rfl, .inl ⟨rfl, rfl⟩⟩
  · injection h2 with e1 e2 e3
    subst e1 e2 e3
    refine ⟨by rw [bv_len, hlen]; omega, .inr ⟨g, cap, cur, by rw [hlen], hg, (hk g rfl).trans hh, by rw [hlen]; omega, hcm, hcs, ?_⟩⟩
    rw [hlen]
    have : List.take (m * 1) cur.toList = List.take m (List.take (zs.length * 1) cur.toList) := by
      rw [List.take_take]; congr 1; omega
    rw [this, hx]
    simp [bv]
/-- One file has crashed. -/
theorem crash_turn {R V : Nat} {S : St} {G : Gh} {w w' : World} {f : Fl} {ao : Option Addr} {cap : Nat} {ks : List Int} (h : DiskIs w R S G) (hf : f ∈ S.files) (hV : G.τ V = 6)
    (hO : Own w 0 (.slice ao f.bs.length cap) f.bs) (hbk : ∀ g, (Value.slice ao f.bs.length cap).ownBlock = some g → G.τ g = 7 + 2 * f.num)
    (hr : w'.heap[G.β f.num]? = some (.cells #[.slice ao (f.lasts + keepN f ks) cap, .int .i64 (f.lasts + keepN f ks : Nat)] 109 (0, 0))) (ho : ∀ i, i ≠ G.β f.num → i ≠ V → w'.heap[i]? = w.heap[i]?) (hs : w'.heap.size = w.heap.size) (hos : w'.os = w.os ∧ w'.tape = w.tape ∧ w'.output = w.output) :
    DiskIs w' R { S with files := updF S.files f.num fun f => crashF f ks } G ∧ Kept G G w w' := by
  have F := h.files f hf
  have hnum := (h.ok.nums f hf).1
  have hle := keepN_le f ks F.lst
  refine file_turn (G' := G) (g := fun f => crashF f ks) (fun f => rfl) h hf ⟨by omega, fun i hi ht => ho i (fun e => ht (.inr (.inl (by rw [e]; exact F.tag)))) (fun e => ht (.inl (by rw [e]; exact hV)))⟩ hos rfl (fun i hi => absurd rfl hi) ?_
  refine ⟨⟨.slice ao (f.lasts + keepN f ks) cap, hr, own_take hO rfl hle (fun g hg => ?_), fun g hg => ?_⟩, F.tag, fun z hz => F.rng z (List.mem_of_mem_take hz), ?_, ?_⟩
  · have := hbk g hg
    exact ho g (fun e => by rw [e, F.tag] at this; omega) (fun e => by rw [e, hV] at this; omega)
  · refine hbk g ?_
    cases ao with
    | none => cases hg
    | some a => exact hg
  · show (f.bs.take _).length ≤ 250000
    rw [List.length_take]; have := F.len; omega
  · show f.lasts + keepN f ks ≤ (f.bs.take _).length
    rw [List.length_take]; omega
/-- The names that lasted take the names' place. -/
theorem names_set {R : Nat} {S : St} {G : Gh} {w w' : World} {L : DataW Unit} (h : DiskIs w R S G) (T : Turn G.τ (fun n => n = 4 ∨ n = 6) w w') (hL : w'.ownsMap Tryz.prog 9 (plainElem Tryz.prog 3) G.bl (Maps.size L) L) (hsz : Maps.size L ≤ S.calls) (hlead : Leads S.files L) (hos : w'.os = w.os ∧ w'.tape = w.tape ∧ w'.output = w.output) :
    ∃ G', DiskMid (w'.setCell ⟨R, 7, none⟩ (.map (some G.bl))) R { S with names := L, lasting := L, since := [] } G' ∧ Kept G G' w (w'.setCell ⟨R, 7, none⟩ (.map (some G.bl))) := by
  have r1 := drow_keep T h.row (by rw [h.tR]; omega)
  have hblR : G.bl ≠ R := fun e => by have e1 := h.tl; rw [e, h.tR] at e1; omega
  have T2 : Turn G.τ (fun n => n = 1 ∨ n = 4 ∨ n = 6) w (w'.setCell ⟨R, 7, none⟩ (.map (some G.bl))) := ⟨by simpa using T.1, fun i hi ht => by
    rw [heap_setCell_other w' ⟨R, 7, none⟩ i _ (fun e => ht (.inl (by rw [show i = R from e]; exact h.tR)))]
    exact T.2 i hi (fun e => ht (.inr e))⟩
  have ht : ∀ i, G.τ i ≠ 4 → (if i = G.bl then 3 else G.τ i) = G.τ i := fun i h0 => by
    rw [if_neg]
    rintro rfl
    exact h0 h.tl
  obtain ⟨D, f1, f2, f3⟩ := h.fm
  obtain ⟨a1, a2, a3, a4, a5, a6, a7, a8, a9, a10, a11⟩ := h.ok
  refine ⟨{ G with bn := G.bl, τ := fun i => if i = G.bl then 3 else G.τ i }, ⟨?_, ⟨D, map_keep T2 f1 (by rw [h.tf]; omega), f2, f3⟩, hL.setCell hblR _, fun f hf => ?_, ?_, ?_, if_pos rfl, fun i hi => ?_, ?_⟩, ?_⟩
  · rw [heap_setCell_same w' R 7 _ _ _ r1]; rfl
  · have hp := a2 f hf
    exact (file_keep T2 (h.files f hf) (by omega) (by omega)).retag rfl fun i hi => ht i (by omega)
  · exact (ht R (by rw [h.tR]; omega)).trans h.tR
  · exact (ht _ (by rw [h.tf]; omega)).trans h.tf
  · show (if i = G.bl then 3 else G.τ i) = 0
    have h1 := h.lm.lt
    have h2 := T2.1
    rw [if_neg (by omega)]
    exact h.top i (by omega)
  · exact ⟨a1, a2, hlead, hlead, fun c hc => (by cases hc), hsz, by show Maps.size L + 0 ≤ S.calls; omega, a8, a9, a10, a11⟩
  · refine ⟨hos.1, hos.2.1, hos.2.2, T2.1, fun i hi h0 => T2.2 i hi (by rw [h0]; omega), fun i hi h0 => ?_⟩
    show (if i = G.bl then 3 else G.τ i) = 0
    rw [ht i (by omega)]
    exact h0
theorem leads_crash {l : List Fl} {ks : List Int} {D : DataW Unit} (h : Leads l D) : Leads (crashAll l ks).1 D := by
  intro p hp
  obtain ⟨f, hf, e⟩ := h p hp
  have hn : f.num ∈ (crashAll l ks).1.map (·.num) := by rw [crashAll_nums]; exact List.mem_map.2 ⟨f, hf, rfl⟩
  obtain ⟨g, hg, e2⟩ := List.mem_map.1 hn
  exact ⟨g, hg, by rw [e]; rw [show f.num = g.num from e2.symm]⟩
theorem leads_all {fs : List Fl} : ∀ (l : List Chn) (D : DataW Unit) (ks : List Int), Leads fs D → (∀ c ∈ l, c.kind = 0 → ∃ f ∈ fs, c.file = f.num) → Leads fs (doAll l D ks)
  | [], D, ks, h, _ => h
  | c :: l, D, ks, h, hc => by
    simp only [doAll]
    refine leads_all l _ _ ?_ (fun c' hc' => hc c' (List.mem_cons_of_mem _ hc'))
    split
    · exact leads_do h (hc c List.mem_cons_self)
    · exact h

end Go.Proofs.YtcahlmneancapaaGreatDoor.Clep

/- What Crash of a Disk does when called: the walk over the translated program. For any Disk of at most 2^40 calls, any numbers that are none of the Disk's own. -/
namespace Go.Proofs.YtcahlmneancapaaGreatDoor.Clep
open Go.RowKit Go.Maps
set_option linter.unusedVariables false
set_option maxRecDepth 10000

/-- Numbers in a row that a call made, as a slice value. -/
theorem ints_slice {w : World} {B : Nat} {v : Value} {zs : List Int} (h : w.ownsRow B 3 1 v zs.length (zs.map encZ)) : ∃ so sc, v = .slice so zs.length sc ∧ zs.length ≤ sc ∧ (0 < zs.length → ∃ g, so = some ⟨g, 0, none⟩ ∧ B ≤ g ∧ g < w.heap.size ∧ ∀ i, i < zs.length → w.cell? ⟨g, i, none⟩ = some (.int .i64 (zs.getD i 0))) := by
  have h0 := h
  obtain ⟨h1, ⟨rfl, h3⟩ | ⟨g, cap, cur, rfl, hg, hh, hnc, hcm, hcs, hx⟩⟩ := h
  · exact ⟨none, 0, by rw [h3], by omega, fun h => by omega⟩
  · refine ⟨_, cap, rfl, hnc, fun _ => ⟨g, rfl, hg, (Array.getElem?_eq_some_iff.1 hh).1, fun i hi => ?_⟩⟩
    have hc := World.ownsRow.cells h0 (g := g) rfl i (.int .i64 (zs.getD i 0)) (by simp [List.getElem?_eq_getElem hi, List.getD])
    rwa [add_plain, Nat.zero_add] at hc
theorem pair_mid {l : List Fl} {j : Nat} {f : Fl} (h : l[j]? = some f) : l = l.take j ++ f :: l.drop (j + 1) ∧ l.take (j + 1) = l.take j ++ [f] := by
  obtain ⟨hj, rfl⟩ := List.getElem?_eq_some_iff.1 h
  refine ⟨?_, ?_⟩
  · rw [← List.drop_eq_getElem_cons hj, List.take_append_drop]
  · rw [List.take_succ_eq_append_getElem hj]
theorem row_slice {w : World} {B e sz n : Nat} {v : Value} {xs : List Value} (h : w.ownsRow B e sz v n xs) : ∃ so sc, v = .slice so n sc ∧ n ≤ sc ∧ (0 < n → ∃ g, so = some ⟨g, 0, none⟩ ∧ ∀ i u, xs[i]? = some u → w.cell? ⟨g, i, none⟩ = some u) := by
  have h0 := h
  obtain ⟨h1, ⟨rfl, h3⟩ | ⟨g, cap, cur, rfl, hg, hh, hnc, hcm, hcs, hx⟩⟩ := h
  · exact ⟨none, 0, by rw [h3], by omega, fun h => by omega⟩
  · refine ⟨_, cap, rfl, hnc, fun _ => ⟨g, rfl, fun i u hu => ?_⟩⟩
    have hc := World.ownsRow.cells h0 (g := g) rfl i u hu
    rwa [add_plain, Nat.zero_add] at hc
theorem ch_at {l : List Chn} {j : Nat} {c : Chn} (h : l[j]? = some c) (i : Nat) (hi : i < 4) : (l.flatMap chCells)[j * 4 + i]? = (chCells c)[i]? := by
  induction l generalizing j with
  | nil => simp at h
  | cons d l ih =>
    rw [List.flatMap_cons]
    cases j with
    | zero =>
      simp only [List.getElem?_cons_zero, Option.some.injEq] at h
      subst h
      rw [Nat.zero_mul, Nat.zero_add, List.getElem?_append_left (by simp [chCells]; omega)]
    | succ j =>
      simp only [List.getElem?_cons_succ] at h
      rw [List.getElem?_append_right (by simp [chCells]; omega)]
      have := ih h
      rw [show (j + 1) * 4 + i - (chCells d).length = j * 4 + i from by simp [chCells]; omega]
      exact this
theorem ch_take {l : List Chn} {j : Nat} {c : Chn} (h : l[j]? = some c) : l.take (j + 1) = l.take j ++ [c] := by
  obtain ⟨hj, rfl⟩ := List.getElem?_eq_some_iff.1 h
  rw [List.take_succ_eq_append_getElem hj]
theorem step_turn {τ : Nat → Nat} {V : Nat} {wS wr w4 : World} {o : Obj} (hT : Turn τ (fun n => n = 4 ∨ n = 6) wS wr) (hV : τ V = 6) (O1 : One V (wr.alloc o) w4) : Turn τ (fun n => n = 4 ∨ n = 6) wS w4 :=
  ⟨by have h1 := O1.size; simp at h1; have h2 := hT.1; omega, fun i hi ht => by
    rw [O1.block i (fun e => ht (.inr (by rw [e]; exact hV)))]
    exact (Below.heap_alloc wr o i (Nat.lt_of_lt_of_le hi hT.1)).trans (hT.2 i hi ht)⟩
theorem step_turn2 {τ : Nat → Nat} {b : Nat} {wS w4 w5 : World} (hT : Turn τ (fun n => n = 4 ∨ n = 6) wS w4) (hb : τ b = 4) (g5 : w4.drew.grownBy w5 (some b)) : Turn τ (fun n => n = 4 ∨ n = 6) wS w5 :=
  ⟨Nat.le_trans hT.1 g5.size, fun i hi ht => by
    rw [g5.block i (Nat.lt_of_lt_of_le hi hT.1) (fun e => ht (.inl (by rw [Option.some.inj e]; exact hb)))]
    exact hT.2 i hi ht⟩

set_option maxHeartbeats 800000 in
set_option maxRecDepth 4000 in
theorem crash_any (R : Nat) (S : St) (G : Gh) (ao : Option Addr) (len cap : Nat) (ks : List Int) (w : World) (h : DiskIs w R S G) (hm : S.calls ≤ 1099511627776) (hk : NumV (fun i => G.τ i = 0 ∧ i < w.heap.size) w (.slice ao len cap) ks) :
    Calls Tryz.prog 29 #[.pointer (some ⟨R, 0, none⟩), .slice ao len cap] w fun e w' => e = .returned (.tuple #[]) ∧ ∃ G', DiskIs w' R (crashS S ks) G' ∧ Kept G G' w w' := by
  have H := hide h
  obtain ⟨DA, KA⟩ := tag_new h (.cells #[.slice ao len cap] 122)
  have hA0 : Var1 (w.alloc (.cells #[.slice ao len cap] 122)) w.heap.size (.slice ao len cap) := ⟨_, (MapKept.heap_alloc w _).1⟩
  have hNA : NumV (fun i => (tagV G w.heap.size).τ i = 0) (w.alloc (.cells #[.slice ao len cap] 122)) (.slice ao len cap) ks := by
    obtain ⟨ao', cap', e, h1, h2, h3, h4⟩ := hk
    refine ⟨ao', cap', e, h1, h2, h3, fun h0 => ?_⟩
    obtain ⟨b, off, e1, ⟨q1, q2⟩, hc⟩ := h4 h0
    refine ⟨b, off, e1, ?_, fun i hi => ?_⟩
    · show (if b = w.heap.size then 6 else G.τ b) = 0
      rw [if_neg (by omega)]; exact q1
    · rw [World.cell?_of_block (w := w) (Below.heap_alloc w _ b q2)]; exact hc i hi
  have HDA := hide DA
  have HKA := hide KA
  have HVA := hide hA0
  have HNA := hide hNA
  have a6 := DA.cells.2.1.2.1
  have htV : (tagV G w.heap.size).τ w.heap.size = 6 := if_pos rfl
  have HtV := hide htV
  obtain ⟨D, f1, f2, f3⟩ := DA.fm
  have SO := hide (sorted_any _ _ D _ f1 (by unfold maxLen; omega) (by omega))
  have FP := hide (files_perm f1 f2 h.ok.rise)
  clear DA KA hA0 hNA h hk htV f1 f2 f3
  generalize hG : tagV G w.heap.size = GV at *
  have HG := hide hG
  clear hG
  go_enter Tryz.func29, Tryz.ntmps29
  go_wp2_with fail
  generalize w.alloc (.cells #[.slice ao len cap] 122) = wA at *
  refine (keys_any _ _).mono ?_
  rintro e w1 ⟨rfl, rfl⟩
  go_wp2_with fail
  refine SO.out.mono ?_
  rintro e w2 ⟨v, ss, rfl, hS, hrow, hb2⟩
  have hss := sort_files FP.out hS H.out.ok.rise
  have hsl : ss.length = (S.files.map fun f => (f.num : Int)).length := (hS.trans FP.out.symm).length_eq
  rw [hss, hsl] at hrow
  obtain ⟨so, sc, rfl, hsc, hcell⟩ := ints_slice hrow
  have hB2 : Below wA.heap.size wA w2 := ((Below.refl wA.heap.size wA).alloc (Nat.le_refl _) _).trans (hb2.mono (by omega))
  have hVlt := HVA.out.lt
  have D2 := hide (HDA.out.below hB2)
  have K2 := hide (HKA.out.trans (Kept.of_below hB2))
  have V2 := hide (show Var1 w2 w.heap.size (.slice ao len cap) by obtain ⟨T, hT⟩ := HVA.out; exact ⟨T, (hB2.block _ hVlt).trans hT⟩)
  have N2 := hide (HNA.out.keep (w' := w2) (fun i hi _ => hB2.block i hi))
  have HC := hide hcell
  have hn : (S.files.map fun f => (f.num : Int)).length = S.files.length := by simp
  have hfew : S.files.length ≤ 1099511627776 := by have h1 := files_few H.out.ok; have h2 := H.out.ok.mad; omega
  have htop := hide (show ∀ g, wA.heap.size + 1 ≤ g → GV.τ g = 0 from fun g hg => HDA.out.top g (by omega))
  rw [hn] at hsc
  clear hrow hss hsl hS hb2 hB2 SO FP HDA HNA HVA HKA hcell a6 hVlt
  rw [hn]
  have Hn := hide hn
  clear hn
  go_wp2_with fail
  go_loopw [19] (fun u wr => ∃ (j : Nat) (x : Value), u = .int .i64 j ∧ j ≤ S.files.length ∧ Hid (DiskIs wr R { S with files := (crashAll (S.files.take j) ks).1 ++ S.files.drop j } GV) ∧ Hid (Kept GV GV w2 wr) ∧ Hid (Var1 wr w.heap.size x) ∧ Hid (NumV (fun i => GV.τ i = 0) wr x (crashAll (S.files.take j) ks).2)) (fun u _ => S.files.length - (intOf u).toNat)
  case atStart => exact ⟨0, _, rfl, by omega, hide (by simpa [crashAll] using D2.out), hide (Kept.refl _ _), V2, hide (by simpa [crashAll] using N2.out)⟩
  case round =>
    obtain ⟨j, x, rfl, hj, hD, hK, hV, hN⟩ := hrel
    by_cases hlt : j < S.files.length
    · obtain ⟨g, rfl, hg1, hg2, hgc⟩ := HC.out (by rw [Hn.out]; omega)
      have hjf : S.files[j]? = some S.files[j] := List.getElem?_eq_getElem hlt
      generalize hff : S.files[j] = f at hjf
      obtain ⟨hsplit, htake⟩ := pair_mid hjf
      have hcj := hgc j (by rw [Hn.out]; exact hlt)
      have hcj' : wr.cell? ⟨g, j, none⟩ = some (.int .i64 (f.num : Int)) := by
        rw [World.cell?_of_block (w := w2) (hK.out.block g hg2 (htop.out g (by omega))), hcj]
        simp [List.getElem?_map, hjf, List.getD]
      have hdrop : S.files.drop j = f :: S.files.drop (j + 1) := by rw [List.drop_eq_getElem_cons hlt, hff]
      rw [hdrop] at hD
      have hmem : f ∈ (crashAll (S.files.take j) ks).1 ++ f :: S.files.drop (j + 1) := List.mem_append_right _ List.mem_cons_self
      have hrise := hD.out.ok.rise
      have F := hD.out.files f hmem
      obtain ⟨fo, fc, hc, hO, hbk, hcm, hB⟩ := F.cells
      have hfo : ∀ x, fo = some x → x.spot = none := fun x hx => by
        obtain ⟨_, ⟨e, _⟩ | ⟨g', cap', cur, e, _⟩⟩ := hO
        · injection e with e1; rw [e1] at hx; cases hx
        · injection e with e1; rw [e1] at hx; cases hx; rfl
      have hbV : GV.β f.num ≠ w.heap.size := fun e => by have e1 := F.tag; have e2 := (hD.out.ok.nums f hmem).1; rw [e, HtV.out] at e1; omega
      have CF := hide (crash_file (GV.β f.num) w.heap.size (fun i => GV.τ i = 0) fo fc f x _ wr hc hB.2.1.1 hcm hB.2.1.2 hfo F.len F.lst hV.out hN.out hbV (by rw [F.tag]; omega) (by rw [HtV.out]; omega))
      have CT := hide (fun w' => crash_turn (w' := w') (ks := (crashAll (S.files.take j) ks).2) hD.out hmem HtV.out hO hbk)
      have UM := hide (upd_mid (g := fun f => crashF f (crashAll (S.files.take j) ks).2) hrise)
      obtain ⟨D, f1, f2, f3⟩ := hD.out.fm
      have hwf : (Lit.int .i64 (f.num : Int)).wf = true := WalkArith.wf_i64 (by have h1 := (hD.out.ok.nums f hmem).2; have h2 := hD.out.ok.mad; simp only at h1 h2; omega)
      have hlook := look_file GV rfl f1 f2 hwf
      rw [fileAt_of hrise hmem] at hlook
      simp only [ptrOf] at hlook
      have c6 := hD.out.cells.2.1.2.1
      have HT := hide htake
      clear hjf hff hsplit hcj hdrop hrise F hc hO hbk hcm hB hfo hgc f1 f2 f3 hwf htake
      go_wp2_with fail
      refine CF.out.mono ?_
      rintro e w4 ⟨rfl, p1, p2, p3, p4, v4, p5, p6⟩
      obtain ⟨D4, K4⟩ := CT.out w4 p1 p2 p3 p4
      have HR := hide (show DiskIs w4 R { S with files := (crashAll (S.files.take (j + 1)) ks).1 ++ S.files.drop (j + 1) } GV by
        rw [HT.out, crashAll_snoc]
        have := D4
        simp only [UM.out] at this
        simpa using this)
      have HN4 := hide (show NumV (fun i => GV.τ i = 0) w4 v4 (crashAll (S.files.take (j + 1)) ks).2 by rw [HT.out, crashAll_snoc]; exact p6)
      have HV4 := hide p5
      have HK4 := hide (hK.out.trans K4)
      clear p1 p2 p3 p4 p5 p6 D4 K4 CF CT UM hD hN hV hK
      go_wp2
      go_roundw
      case rel => exact ⟨j + 1, v4, by go_num, by omega, HR, HK4, HV4, HN4⟩
      case measure => simp [intOf]; omega
    · have hjj : j = S.files.length := by omega
      subst hjj
      rw [List.take_length, List.drop_length, List.append_nil] at hD
      rw [List.take_length] at hN
      have KS := hide (K2.out.trans hK.out)
      generalize hk1 : (crashAll S.files ks).2 = k1 at hN
      have Hk1 := hide hk1
      clear hk1 hK V2 N2 D2 K2 HC hj hlt hsc hfew htop Hn
      generalize hfs1 : (crashAll S.files ks).1 = fs1 at hD
      have Hfs1 := hide hfs1
      clear hfs1
      obtain ⟨so2, sc2, hsv, hsc2, hcell2⟩ := row_slice hD.out.sc
      simp only at hsv hsc2 hcell2
      have d9 := hD.out.cells.2.1.2.2.2.2
      rw [hsv] at d9
      have HC2 := hide hcell2
      have Hsv := hide hsv
      have hsn : S.since.length ≤ 1099511627776 := by have h1 := hD.out.ok.szl; simp only at h1; omega
      clear hcell2 hsv
      go_wp2_with fail
      generalize wr = wS at *
      go_loopw [36] (fun u w3 => ∃ (j : Nat) (y : Value), u = .int .i64 j ∧ j ≤ S.since.length ∧ Hid (Turn GV.τ (fun n => n = 4 ∨ n = 6) wS w3) ∧ Hid (w3.os = wS.os ∧ w3.tape = wS.tape ∧ w3.output = wS.output) ∧ Hid (w3.ownsMap Tryz.prog 9 (plainElem Tryz.prog 3) GV.bl (Maps.size (doAll (S.since.take j) S.lasting k1)) (doAll (S.since.take j) S.lasting k1)) ∧
        Hid (Maps.size (doAll (S.since.take j) S.lasting k1) ≤ Maps.size S.lasting + j) ∧ Hid (Var1 w3 w.heap.size y) ∧ Hid (NumV (fun i => GV.τ i = 0) w3 y (k1.drop j))) (fun u _ => S.since.length - (intOf u).toNat)
      case atStart => exact ⟨0, x, rfl, by omega, hide ⟨Nat.le_refl _, fun _ _ _ => rfl⟩, hide ⟨rfl, rfl, rfl⟩, hide hD.out.lm, hide (Nat.le_refl _), hV, hN⟩
      case round =>
        obtain ⟨j, y, rfl, hj, hT, hos, hL, hLz, hV3, hN3⟩ := hrel
        by_cases hlt2 : j < S.since.length
        · obtain ⟨g, rfl, hgc⟩ := HC2.out (by omega)
          obtain ⟨c, hc⟩ : ∃ c, S.since[j]? = some c := ⟨_, List.getElem?_eq_getElem hlt2⟩
          have htg : GV.τ g = 5 := hD.out.ts g (by rw [Hsv.out]; rfl)
          have hgl : g < wS.heap.size := World.block_lt_of_cell? wS ⟨g, j * 4 + 0, none⟩ (hgc (j * 4 + 0) _ (by rw [ch_at hc 0 (by omega)]; rfl))
          have hcell : ∀ i u, i < 4 → (chCells c)[i]? = some u → wr.cell? ⟨g, j * 4 + i, none⟩ = some u := fun i u hi hu => by
            rw [World.cell?_of_block (w := wS) (hT.out.2 g hgl (by rw [htg]; omega))]
            exact hgc _ u (by rw [ch_at hc i hi]; exact hu)
          have g0 : wr.cell? ⟨g, j * 4, none⟩ = some (.int .i64 c.kind) := hcell 0 _ (by omega) rfl
          have g1 : wr.cell? ⟨g, j * 4 + 1, none⟩ = some (.string c.name) := hcell 1 _ (by omega) rfl
          have g2 : wr.cell? ⟨g, j * 4 + 2, none⟩ = some (.string c.to) := hcell 2 _ (by omega) rfl
          have g3 : wr.cell? ⟨g, j * 4 + 3, none⟩ = some (.int .i64 c.file) := hcell 3 _ (by omega) rfl
          clear hcell hgc
          have htl : GV.τ GV.bl = 4 := hD.out.tl
          have hVl := hV3.out.lt
          have hneV : ∀ i, GV.τ i ≠ 6 → i ≠ w.heap.size := fun i hi e => hi (by rw [e]; exact HtV.out)
          have hbll := hL.out.lt
          have hc' := hD.out.ok.crea c (List.mem_of_getElem? hc)
          have hLs := hD.out.ok.szl
          simp only at hc' hLs
          have hfile : c.file ≤ 1099511627777 := by have h1 := hD.out.ok.mad; have h2 := hc'.2.2.2.2; simp only at h1; omega
          have hDo := hide (fun W (hW : W.ownsMap Tryz.prog 9 (plainElem Tryz.prog 3) GV.bl (Maps.size (doAll (S.since.take j) S.lasting k1)) (doAll (S.since.take j) S.lasting k1)) => do_any GV.bl _ c W hW (by have := hLz.out; omega) (by omega) (by omega) hc'.1 hfile)
          unfold chV at hDo
          have hRwr : wr.heap[R]? = _ := drow_keep hT.out hD.out.row (by rw [hD.out.tR]; omega)
          have NXT := hide (dnext_any (fun i => GV.τ i = 0) w.heap.size y (k1.drop j) (wr.alloc (.cells #[.int .i64 c.kind, .string c.name, .string c.to, .int .i64 c.file] 113))
            (by obtain ⟨T, hT'⟩ := hV3.out; exact ⟨T, (Below.heap_alloc wr _ _ hVl).trans hT'⟩) (hN3.out.keep (fun i hi _ => Below.heap_alloc wr _ i hi)))
          go_wp2_with fail
          refine NXT.out.mono ?_
          rintro e w4 ⟨he, O1, y4, V4, N4⟩
          have HT4 := hide (step_turn hT.out HtV.out O1)
          have HO4 := hide (show w4.os = wS.os ∧ w4.tape = wS.tape ∧ w4.output = wS.output from ⟨O1.os.trans hos.out.1, O1.tape.trans hos.out.2.1, O1.output.trans hos.out.2.2⟩)
          have L4 := hide (show w4.ownsMap Tryz.prog 9 (plainElem Tryz.prog 3) GV.bl (Maps.size (doAll (S.since.take j) S.lasting k1)) (doAll (S.since.take j) S.lasting k1) by
            obtain ⟨es, clock, hh, r⟩ := hL.out.alloc (.cells #[.int .i64 c.kind, .string c.name, .string c.to, .int .i64 c.file] 113)
            exact ⟨es, clock, (O1.block _ (hneV _ (by rw [htl]; omega))).trans hh, r⟩)
          have x4 : w4.heap[wr.heap.size]? = some (.cells #[.int .i64 c.kind, .string c.name, .string c.to, .int .i64 c.file] 113 (0, 0)) := (O1.block _ (by omega)).trans (MapKept.heap_alloc wr _).1
          have r4 : w4.heap[R]? = _ := (O1.block R (hneV R (by rw [hD.out.tR]; omega))).trans ((Below.heap_alloc wr _ R (Array.getElem?_eq_some_iff.1 hRwr).1).trans hRwr)
          have q0 := cell_of (i := 0) x4 rfl
          have q1 := cell_of (i := 1) x4 rfl
          have q2 := cell_of (i := 2) x4 rfl
          have q3 := cell_of (i := 3) x4 rfl
          have c8 := cell_of (i := 8) r4 rfl
          simp [dRow] at q0 q1 q2 q3 c8
          have HN4 := hide N4
          clear O1 N4 x4 r4 NXT hRwr g0 g1 g2 g3
          cases hkj : k1.drop j with
          | nil =>
            rw [hkj] at he
            obtain rfl : e = .returned (.tuple #[.int .i64 0, .bool false]) := he
            have hEV : evenK (k1.drop j) = true := by rw [hkj]; rfl
            have DS := hide (show doAll (S.since.take (j + 1)) S.lasting k1 = doS (doAll (S.since.take j) S.lasting k1) c by
              rw [ch_take hc, doAll_snoc, show (S.since.take j).length = j from by rw [List.length_take]; omega, hEV, if_pos rfl])
            clear hEV
            go_wp2_with fail
            go_region_with (go_at_call 63; refine (hDo.out w4.drew L4.out).mono ?_; rintro e w5 ⟨rfl, g5, o5, z5⟩)
            all_goals
              have HT5 := hide (step_turn2 HT4.out htl g5)
              have HO5 := hide (show w5.os = wS.os ∧ w5.tape = wS.tape ∧ w5.output = wS.output from ⟨g5.os.trans HO4.out.1, g5.tape.trans HO4.out.2.1, g5.output.trans HO4.out.2.2⟩)
              have HV5 := hide (show Var1 w5 w.heap.size y4 by
                obtain ⟨T, hT'⟩ := V4
                exact ⟨T, (g5.block _ (Array.getElem?_eq_some_iff.1 hT').1 (fun e => by have e1 := HtV.out; rw [Option.some.inj e, htl] at e1; omega)).trans hT'⟩)
              have HN5 := hide (show NumV (fun i => GV.τ i = 0) w5 y4 (k1.drop (j + 1)) by
                rw [← List.tail_drop]
                exact HN4.out.keep (fun i hi hq => g5.block i hi (fun e => by rw [Option.some.inj e, htl] at hq; omega)))
              have HL5 := hide (show w5.ownsMap Tryz.prog 9 (plainElem Tryz.prog 3) GV.bl (Maps.size (doAll (S.since.take (j + 1)) S.lasting k1)) (doAll (S.since.take (j + 1)) S.lasting k1) by rw [DS.out]; exact o5)
              have HZ5 := hide (show Maps.size (doAll (S.since.take (j + 1)) S.lasting k1) ≤ Maps.size S.lasting + (j + 1) by rw [DS.out]; have := hLz.out; omega)
              clear g5 o5 z5
              go_wp2
              go_roundw
              case rel => exact ⟨j + 1, y4, by go_num, by omega, HT5, HO5, HL5, HZ5, HV5, HN5⟩
              case measure => simp [intOf]; omega
          | cons k r =>
            rw [hkj] at he
            obtain rfl : e = .returned (.tuple #[.int .i64 k, .bool true]) := he
            by_cases hev : (k.tmod 2 == 0) = true
            · have hEV : evenK (k1.drop j) = true := by rw [hkj]; exact hev
              have DS := hide (show doAll (S.since.take (j + 1)) S.lasting k1 = doS (doAll (S.since.take j) S.lasting k1) c by
                rw [ch_take hc, doAll_snoc, show (S.since.take j).length = j from by rw [List.length_take]; omega, hEV, if_pos rfl])
              clear hEV
              go_wp2_with fail
              go_region_with (go_at_call 63; refine (hDo.out w4.drew L4.out).mono ?_; rintro e w5 ⟨rfl, g5, o5, z5⟩)
              all_goals
                have HT5 := hide (step_turn2 HT4.out htl g5)
                have HO5 := hide (show w5.os = wS.os ∧ w5.tape = wS.tape ∧ w5.output = wS.output from ⟨g5.os.trans HO4.out.1, g5.tape.trans HO4.out.2.1, g5.output.trans HO4.out.2.2⟩)
                have HV5 := hide (show Var1 w5 w.heap.size y4 by
                  obtain ⟨T, hT'⟩ := V4
                  exact ⟨T, (g5.block _ (Array.getElem?_eq_some_iff.1 hT').1 (fun e => by have e1 := HtV.out; rw [Option.some.inj e, htl] at e1; omega)).trans hT'⟩)
                have HN5 := hide (show NumV (fun i => GV.τ i = 0) w5 y4 (k1.drop (j + 1)) by
                  rw [← List.tail_drop]
                  exact HN4.out.keep (fun i hi hq => g5.block i hi (fun e => by rw [Option.some.inj e, htl] at hq; omega)))
                have HL5 := hide (show w5.ownsMap Tryz.prog 9 (plainElem Tryz.prog 3) GV.bl (Maps.size (doAll (S.since.take (j + 1)) S.lasting k1)) (doAll (S.since.take (j + 1)) S.lasting k1) by rw [DS.out]; exact o5)
                have HZ5 := hide (show Maps.size (doAll (S.since.take (j + 1)) S.lasting k1) ≤ Maps.size S.lasting + (j + 1) by rw [DS.out]; have := hLz.out; omega)
                clear g5 o5 z5
                go_wp2
                go_roundw
                case rel => exact ⟨j + 1, y4, by go_num, by omega, HT5, HO5, HL5, HZ5, HV5, HN5⟩
                case measure => simp [intOf]; omega
            · rw [Bool.not_eq_true] at hev
              have hEV : evenK (k1.drop j) = false := by rw [hkj]; exact hev
              have DS := hide (show doAll (S.since.take (j + 1)) S.lasting k1 = doAll (S.since.take j) S.lasting k1 by
                rw [ch_take hc, doAll_snoc, show (S.since.take j).length = j from by rw [List.length_take]; omega, hEV, if_neg (by simp)])
              clear hEV
              have HN5 := hide (show NumV (fun i => GV.τ i = 0) w4 y4 (k1.drop (j + 1)) by rw [← List.tail_drop]; exact HN4.out)
              have HL5 := hide (show w4.ownsMap Tryz.prog 9 (plainElem Tryz.prog 3) GV.bl (Maps.size (doAll (S.since.take (j + 1)) S.lasting k1)) (doAll (S.since.take (j + 1)) S.lasting k1) by rw [DS.out]; exact L4.out)
              have HZ5 := hide (show Maps.size (doAll (S.since.take (j + 1)) S.lasting k1) ≤ Maps.size S.lasting + (j + 1) by rw [DS.out]; have := hLz.out; omega)
              have HV5 := hide V4
              go_wp2
              go_roundw
              case rel => exact ⟨j + 1, y4, by go_num, by omega, HT4, HO4, HL5, HZ5, HV5, HN5⟩
              case measure => simp [intOf]; omega
        · have hjj : j = S.since.length := by omega
          subst hjj
          rw [List.take_length] at hL hLz
          have hleads : Leads fs1 (doAll S.since S.lasting k1) := leads_all _ _ _ (by have := hD.out.ok.lasted; exact this) (fun c hc => (hD.out.ok.crea c hc).2.2.2.1)
          obtain ⟨G7, D7, K7⟩ := names_set hD.out hT.out hL.out (by have h1 := hLz.out; have h2 := hD.out.ok.szl; simp only at h2 ⊢; omega) hleads hos.out
          have hRwr : wr.heap[R]? = _ := drow_keep hT.out hD.out.row (by rw [hD.out.tR]; omega)
          have c7 := cell_of (i := 7) hRwr rfl
          have c8 := cell_of (i := 8) hRwr rfl
          simp [dRow] at c7 c8
          have f7 := frozen_of_row wr R 7 _ _ hRwr
          have ST := hide (settle_any R _ G7 _ D7 hm)
          have HK7 := hide (KS.out.trans K7)
          clear D7 K7 hRwr hleads
          go_wp2_with fail
          refine ST.out.mono ?_
          rintro e w8 ⟨rfl, G8, D8, K8⟩
          have D9 := D8.put (S' := { settleS { S with files := fs1, names := doAll S.since S.lasting k1, lasting := doAll S.since S.lasting k1, since := [] } with stop := 0 }) 2 (.int .i64 0) rfl rfl rfl rfl rfl (Nat.le_refl _) (D8.ok.scal _ _ _ _ (Nat.le_refl _) (by omega) D8.ok.fai)
          have D10 := D9.put (S' := { settleS { S with files := fs1, names := doAll S.since S.lasting k1, lasting := doAll S.since S.lasting k1, since := [] } with stop := 0, fail := 0 }) 3 (.int .i64 0) rfl rfl rfl rfl rfl (Nat.le_refl _) (D8.ok.scal _ _ _ _ (Nat.le_refl _) (by omega) (by omega))
          have D11 := D10.put (S' := { settleS { S with files := fs1, names := doAll S.since S.lasting k1, lasting := doAll S.since S.lasting k1, since := [] } with stop := 0, fail := 0, dead := false }) 4 (.bool false) rfl rfl rfl rfl rfl (Nat.le_refl _) (D8.ok.scal _ _ _ _ (Nat.le_refl _) (by omega) (by omega))
          have K11 := ((K8.trans (kept_set (G := G8) (b := R) 2 (.int .i64 0) (by rw [D8.tR]; omega))).trans (kept_set (G := G8) (b := R) 3 (.int .i64 0) (by rw [D8.tR]; omega))).trans (kept_set (G := G8) (b := R) 4 (.bool false) (by rw [D8.tR]; omega))
          have e2 := D8.cells.1.2.2.1
          have e3 := D8.cells.1.2.2.2.1
          have e4 := D8.cells.1.2.2.2.2
          have v2 := D8.cells.2.2 2
          have v3 := D8.cells.2.2 3
          have v4 := D8.cells.2.2 4
          have HD11 := hide D11
          have HK11 := hide K11
          clear D8 D9 D10 D11 K8 K11 ST c7 c8 f7
          go_wp2
          go_end0
          refine ⟨rfl, G8, ?_, HK7.out.trans HK11.out⟩
          have hcs : crashS S ks = { settleS { S with files := fs1, names := doAll S.since S.lasting k1, lasting := doAll S.since S.lasting k1, since := [] } with stop := 0, fail := 0, dead := false } := by
            unfold crashS; rw [Hfs1.out, Hk1.out]
          rw [hcs]
          exact HD11.out

end Go.Proofs.YtcahlmneancapaaGreatDoor.Clep

/- What New, SyncDir and Sync of a Disk do when called (walks over the translated program): for any quota, any Disk of fewer than 2^40 calls, any name of at most 2^46 bytes. -/
namespace Go.Proofs.YtcahlmneancapaaGreatDoor.Clep
open Go.RowKit Go.Maps
set_option linter.unusedVariables false
set_option maxRecDepth 10000

def newS (q : Nat) : St := ⟨q, 0, 0, 0, false, 0, [], .map [], .map [], []⟩
theorem new_is (q : Nat) (hq : q ≤ 9223372036854775807) (w : World) : ∃ G, DiskIs ((((w.alloc (.map #[] 0)).alloc (.map #[] 0)).alloc (.map #[] 0)).alloc (.cells #[.int .i64 q, .int .i64 0, .int .i64 0, .int .i64 0, .bool false, .int .i64 0, .map (some w.heap.size), .map (some (w.heap.size + 1)), .map (some (w.heap.size + 2)), .slice none 0 0] 78)) (w.heap.size + 3) (newS q) G ∧ ∀ i, i < w.heap.size → G.τ i = 0 := by
  have hm := fun W : World => MapKept.heap_alloc W
  have h1 := World.ownsMap_made w Tryz.prog 3 ptrElem
  have h2 := World.ownsMap_made (w.alloc (.map #[] 0)) Tryz.prog 9 (plainElem (H := Unit) Tryz.prog 3)
  have h3 := World.ownsMap_made ((w.alloc (.map #[] 0)).alloc (.map #[] 0)) Tryz.prog 9 (plainElem (H := Unit) Tryz.prog 3)
  simp only [World.size_alloc] at h2 h3
  refine ⟨⟨w.heap.size, w.heap.size + 1, w.heap.size + 2, .slice none 0 0, fun _ => 0, fun i => if i = w.heap.size + 3 then 1 else if i = w.heap.size then 2 else if i = w.heap.size + 1 then 3 else if i = w.heap.size + 2 then 4 else 0⟩, ⟨?_, ⟨_, tight (((h1.alloc _).alloc _).alloc _), ?_, Nat.zero_le _⟩, tight ((h2.alloc _).alloc _), tight (h3.alloc _), ⟨rfl, .inl ⟨rfl, rfl⟩⟩, fun f hf => (by cases hf), ?_, ?_, ?_, ?_, fun g hg => (by cases hg), ?_, ?_⟩, ?_⟩
  · have := (hm (((w.alloc (.map #[] 0)).alloc (.map #[] 0)).alloc (.map #[] 0)) (.cells #[.int .i64 q, .int .i64 0, .int .i64 0, .int .i64 0, .bool false, .int .i64 0, .map (some w.heap.size), .map (some (w.heap.size + 1)), .map (some (w.heap.size + 2)), .slice none 0 0] 78)).1
    simp only [World.size_alloc] at this
    exact this
  · intro k
    exact ⟨rfl, rfl⟩
  · simp
  · simp
  · simp
  · simp
  · intro i hi
    simp only [World.size_alloc] at hi
    show (if i = w.heap.size + 3 then 1 else if i = w.heap.size then 2 else if i = w.heap.size + 1 then 3 else if i = w.heap.size + 2 then 4 else 0) = 0
    rw [if_neg (by omega), if_neg (by omega), if_neg (by omega), if_neg (by omega)]
  · exact ⟨List.Pairwise.nil, fun f hf => (by cases hf), fun p hp => (by cases hp), fun p hp => (by cases hp), fun c hc => (by cases hc), Nat.le_refl _, Nat.le_refl _, Nat.le_refl _, hq, Nat.zero_le _, Nat.zero_le _⟩
  · intro i hi
    show (if i = w.heap.size + 3 then 1 else if i = w.heap.size then 2 else if i = w.heap.size + 1 then 3 else if i = w.heap.size + 2 then 4 else 0) = 0
    rw [if_neg (by omega), if_neg (by omega), if_neg (by omega), if_neg (by omega)]
theorem new_any (q : Nat) (w : World) (hq : q ≤ 9223372036854775807) :
    Calls Tryz.prog 9 #[.int .i64 q] w fun e w' => ∃ R G, e = .returned (.pointer (some ⟨R, 0, none⟩)) ∧ DiskIs w' R (newS q) G ∧ Below w.heap.size w w' ∧ ∀ i, i < w.heap.size → G.τ i = 0 := by
  have hmm := @run_makeMap Tryz.prog
  have hqz : ¬ ((q : Int) < 0) := by omega
  have hmx : max (q : Int) 0 = q := by omega
  have NI := hide (new_is q hq w)
  go_enter Tryz.func9, Tryz.ntmps9
  go_wp2
  go_ret
  obtain ⟨G, h1, h2⟩ := NI.out
  exact ⟨_, rfl, G, h1, (((((Below.refl _ w).alloc (Nat.le_refl _) _).alloc (by simp) _).alloc (by simp; omega) _).alloc (by simp; omega) _), h2⟩
def syncDirS (S : St) : Nat × St := if (beginS S).1 ≠ 0 then beginS S else (0, settleS (beginS S).2)
set_option maxHeartbeats 400000 in
theorem syncDir_any (R : Nat) (S : St) (G : Gh) (w : World) (h : DiskIs w R S G) (hm : S.calls < 1099511627776) :
    Calls Tryz.prog 74 #[.pointer (some ⟨R, 0, none⟩)] w fun e w' => e = .returned (.int .i64 (syncDirS S).1) ∧ ∃ G', DiskIs w' R (syncDirS S).2 G' ∧ Kept G G' w w' := by
  have BG := hide (begin_any R S G none [] w h (by omega) (by simp) (fun i hi => absurd hi (Nat.not_lt_zero _)) (fun s hs => by cases hs))
  clear h
  go_enter Tryz.func74, Tryz.ntmps74
  go_wp2_with fail
  refine BG.out.mono ?_
  clear BG
  rintro e w1 (⟨hno, rfl, rfl⟩ | ⟨hyes, rfl, D1, K1⟩)
  · cases hno
  · obtain ⟨e1, S1, hb⟩ : ∃ e1 S1, beginS S = (e1, S1) := ⟨_, _, rfl⟩
    have hk := (begin_keeps S).1
    have hc0 : syncDirS S = if e1 ≠ 0 then (e1, S1) else (0, settleS S1) := by unfold syncDirS; rw [hb]
    have HC := hide hc0
    rw [hb] at D1 hk ⊢
    have HD := hide D1
    have HK := hide K1
    clear hc0 K1 D1 hyes hb
    simp only at HD hk ⊢
    have hcl : S1.calls ≤ 1099511627776 := by omega
    clear hk
    by_cases he : e1 = 0
    · subst he
      have ST := hide (settle_any R S1 G w1 HD.out.mid hcl)
      go_wp2_with fail
      refine ST.out.mono ?_
      rintro e w2 ⟨rfl, G2, D2, K2⟩
      have HD2 := hide D2
      have HK2 := hide (HK.out.trans K2)
      clear D2 K2
      go_wp2
      go_ret
      exact ⟨by rw [HC.out]; rfl, by rw [HC.out]; exact ⟨G2, HD2.out, HK2.out⟩⟩
    · have HC2 := hide (show syncDirS S = (e1, S1) by rw [HC.out, if_pos he])
      have hne : ¬ ((e1 : Int) = 0) := by omega
      go_wp2
      go_ret
      exact ⟨by rw [HC2.out]; rfl, by rw [HC2.out]; exact ⟨G, HD.out, HK.out⟩⟩

def lastF (f : Fl) : Fl := { f with lasts := f.bs.length }
def syncS (S : St) (s : ByteArray) : Nat × St :=
  if okName s = false then (10, S)
  else if (beginS S).1 ≠ 0 then beginS S
  else match fileAt (beginS S).2.files (lk (beginS S).2.names s) with
    | none => (11, (beginS S).2)
    | some f => (0, { (beginS S).2 with files := updF (beginS S).2.files f.num lastF })
theorem sync_file {R : Nat} {S : St} {G : Gh} {w : World} {f : Fl} (h : DiskIs w R S G) (hf : f ∈ S.files) :
    DiskIs (w.setCell ⟨G.β f.num, 1, none⟩ (.int .i64 f.bs.length)) R { S with files := updF S.files f.num lastF } G ∧ Kept G G w (w.setCell ⟨G.β f.num, 1, none⟩ (.int .i64 f.bs.length)) := by
  have F := h.files f hf
  obtain ⟨ao, cap, hc, hO, hbk, hcm, hB⟩ := F.cells
  refine file_turn (G' := G) (g := lastF) (fun f => rfl) h hf ((turn_set (t := 6 + 2 * f.num) _ F.tag).mono fun n hn => .inr (.inl hn)) ⟨rfl, rfl, rfl⟩ rfl (fun i hi => absurd rfl hi) ?_
  refine ⟨⟨.slice ao f.bs.length cap, ?_, ?_, hbk⟩, F.tag, F.rng, F.len, Nat.le_refl _⟩
  · show (w.setCell ⟨G.β f.num, 1, none⟩ (.int .i64 f.bs.length)).heap[G.β f.num]? = _
    rw [heap_setCell_same w _ 1 _ _ _ hc]; rfl
  · exact owns_keep (turn_set (τ := G.τ) (t := 6 + 2 * f.num) _ F.tag) hO (fun g hg => by rw [hbk g hg]; omega)
set_option maxHeartbeats 400000 in
theorem sync_any (R : Nat) (S : St) (G : Gh) (s : ByteArray) (w : World) (h : DiskIs w R S G) (hm : S.calls < 1099511627776) (hs : s.size ≤ 70368744177664) :
    Calls Tryz.prog 40 #[.pointer (some ⟨R, 0, none⟩), .string s] w fun e w' => e = .returned (.int .i64 (syncS S s).1) ∧ ∃ G', DiskIs w' R (syncS S s).2 G' ∧ Kept G G' w w' := by
  have H := hide h
  have BA := (Below.refl w.heap.size w).alloc (Nat.le_refl _) (.cells #[.string s] 9)
  have BG := hide (begin_any R S G (some ⟨w.heap.size, 0, none⟩) [s] _ (h.below BA) (by omega) (by simp) (txts_one w s) (by simpa using hs))
  have HA := hide BA
  clear h BA
  go_enter Tryz.func40, Tryz.ntmps40
  go_wp2_with fail
  refine BG.out.mono ?_
  clear BG
  generalize w.alloc (.cells #[.string s] 9) = wA at *
  rintro e w1 (⟨hno, rfl, rfl⟩ | ⟨hyes, rfl, D1, K1⟩)
  · have hc : syncS S s = (10, S) := by unfold syncS; rw [if_pos (by simpa using hno)]
    have HC := hide hc
    clear hc
    go_wp2
    go_ret
    exact ⟨by rw [HC.out]; rfl, by rw [HC.out]; exact ⟨G, H.out.below HA.out, Kept.of_below HA.out⟩⟩
  · have hy : okName s = true := by simpa using hyes
    obtain ⟨e1, S1, hb⟩ : ∃ e1 S1, beginS S = (e1, S1) := ⟨_, _, rfl⟩
    have hc0 : syncS S s = if e1 ≠ 0 then (e1, S1) else match fileAt S1.files (lk S1.names s) with | none => (11, S1) | some f => (0, { S1 with files := updF S1.files f.num lastF }) := by
      unfold syncS; rw [if_neg (by rw [hy]; simp), hb]
    have HC := hide hc0
    have KK := hide ((Kept.of_below (G := G) HA.out).trans K1)
    rw [hb] at D1 ⊢
    have HD := hide D1
    clear hc0 K1 D1 hyes hb
    simp only at HD ⊢
    by_cases he : e1 = 0
    · subst he
      have hF := hide (find_disk R S1 G s w1 HD.out hs)
      go_wp2_with fail
      refine hF.out.mono ?_
      rintro e w2 ⟨rfl, b2⟩
      have HD2 := hide (HD.out.below b2)
      have KK2 := hide (KK.out.trans (Kept.of_below b2))
      clear b2 hF KK HD
      cases hf : fileAt S1.files (lk S1.names s) with
      | none =>
        have HC2 := hide (show syncS S s = (11, S1) by rw [HC.out, hf]; rfl)
        simp only [ptrOf]
        go_wp2
        go_ret
        exact ⟨by rw [HC2.out]; rfl, by rw [HC2.out]; exact ⟨G, HD2.out, KK2.out⟩⟩
      | some f =>
        simp only [ptrOf]
        have HC2 := hide (show syncS S s = (0, { S1 with files := updF S1.files f.num lastF }) by rw [HC.out, hf]; rfl)
        have hmem := (fileAt_mem hf).1
        obtain ⟨fo, fc, hc, _⟩ := (HD2.out.files f hmem).cells
        have cf := cell_of (i := 0) hc rfl
        have cl := cell_of (i := 1) hc rfl
        simp at cf cl
        have fl := frozen_of_row w2 (G.β f.num) 1 _ _ hc
        have SF := hide (sync_file HD2.out hmem)
        clear HC hf hc
        go_wp2
        go_ret
        exact ⟨by rw [HC2.out]; rfl, by rw [HC2.out]; exact ⟨G, SF.out.1, KK2.out.trans SF.out.2⟩⟩
    · have HC2 := hide (show syncS S s = (e1, S1) by rw [HC.out, if_pos he])
      have hne : ¬ ((e1 : Int) = 0) := by omega
      go_wp2
      go_ret
      exact ⟨by rw [HC2.out]; rfl, by rw [HC2.out]; exact ⟨G, HD.out, KK.out⟩⟩

end Go.Proofs.YtcahlmneancapaaGreatDoor.Clep
