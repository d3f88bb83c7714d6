/- What edit.numOk, filesOk, distinct, versionsOk and Ok do when called (walks over the translated program): for any View. -/
import Derived.Test.YtgopcaemgcnapaaEView
namespace Go.Proofs.Ytgopcaemgcnapaa.Clep
open Go.RowKit
set_option linter.unusedVariables false
set_option maxRecDepth 10000

theorem numok_any (n : Int) (w : World) : Calls Try.prog 47 #[.int .i64 n] w fun e w' => e = .returned (.bool (okN n)) ∧ w' = w := by
  have HO := hide (show okN n = decide (1 ≤ n ∧ n ≤ 1073741824) from rfl)
  generalize okN n = O at *
  rcases (show (1 ≤ n ∧ n ≤ 1073741824) ∨ ¬ (1 ≤ n) ∨ (1 ≤ n ∧ ¬ (n ≤ 1073741824)) by omega) with h | h | h
  · obtain rfl : O = true := by rw [HO.out]; exact decide_eq_true h
    obtain ⟨h1, h2⟩ := h
    go_enter Try.func47, Try.ntmps47
    go_wp2
    go_ret
    exact ⟨rfl, rfl⟩
  · obtain rfl : O = false := by rw [HO.out]; exact decide_eq_false (by omega)
    go_enter Try.func47, Try.ntmps47
    go_wp2
    go_ret
    exact ⟨rfl, rfl⟩
  · obtain rfl : O = false := by rw [HO.out]; exact decide_eq_false (by omega)
    obtain ⟨h1, h2⟩ := h
    go_enter Try.func47, Try.ntmps47
    go_wp2
    go_ret
    exact ⟨rfl, rfl⟩

def flk (l : List Fi) : Bool := decide (l.length ≤ 40) && l.all Fi.ok
theorem fi_ok (L N : Int) : Fi.ok ⟨L, N⟩ = (decide (0 ≤ L ∧ L ≤ 3) && okN N) := by
  unfold Fi.ok okN
  by_cases h : 0 ≤ L ∧ L ≤ 3 <;> simp [h] <;> omega
set_option maxHeartbeats 1000000 in
theorem filesok_any (a : Option Addr) (n c : Nat) (l : List Fi) (w : World) (h : Fs w a n c l) (hn : n ≤ 9223372036854775807) :
    Calls Try.prog 48 #[.slice a n c] w fun e w' => e = .returned (.bool (flk l)) ∧ Below w.heap.size w w' := by
  have hl := h.1
  have H0 := hide (fun W (hW : Below w.heap.size w W) => h.below hW (Nat.le_refl _))
  have HNO := hide (show ¬ (n ≤ 40) ∨ l.all Fi.ok = false → flk l = false from fun h => by
    unfold flk
    rcases h with h | h
    · rw [show decide (l.length ≤ 40) = false from decide_eq_false (by omega)]; rfl
    · rw [h]; simp)
  have HYES := hide (show n ≤ 40 → l.all Fi.ok = true → flk l = true from fun h1 h2 => by
    unfold flk
    rw [h2, show decide (l.length ≤ 40) = true from decide_eq_true (by omega)]; rfl)
  generalize flk l = M at *
  clear h
  by_cases h40 : n ≤ 40
  · have g1 : (n : Int) ≤ 40 := by omega
    go_enter Try.func48, Try.ntmps48
    go_wp2_with fail
    go_loopw [10] (fun i wr => ∃ k : Nat, k ≤ n ∧ i = .int .i64 k ∧ Hid ((l.take k).all Fi.ok = true) ∧ Hid (Below w.heap.size w wr)) (fun i _ => n - (intOf i).toNat)
    case atStart => exact ⟨0, by omega, rfl, hide (by simp), hide (Below.refl _ _)⟩
    case round =>
      obtain ⟨k, hk, rfl, hall, hbel⟩ := hrel
      by_cases hlt : k < n
      · obtain ⟨f, b, off, hf, rfl, c0, c1, hfw⟩ := fs_at (H0.out wr hbel.out) k hlt
        obtain ⟨fL, fN⟩ := f
        simp only at c0 c1
        have HBA := hide (hbel.out.alloc hbel.out.size (Obj.cells #[.int .i64 fL, .int .i64 fN] 29))
        have HFO := hide (fi_ok fL fN)
        have HBD := hide (show Fi.ok ⟨fL, fN⟩ = false → M = false from fun e => HNO.out (.inr (all_bad hf e)))
        have HTD := hide (show Fi.ok ⟨fL, fN⟩ = true → (l.take (k + 1)).all Fi.ok = true from fun e => all_more hf e hall.out)
        clear hf hfw
        rcases (show fL < 0 ∨ (¬ (fL < 0) ∧ 3 < fL) ∨ (¬ (fL < 0) ∧ ¬ (3 < fL)) by omega) with q | ⟨q1, q2⟩ | ⟨q1, q2⟩
        · obtain rfl : M = false := HBD.out (by rw [HFO.out, show decide (0 ≤ fL ∧ fL ≤ 3) = false from decide_eq_false (by omega)]; rfl)
          clear HBD HTD HNO HYES HFO
          go_wp2
          go_ret
          exact ⟨rfl, HBA.out⟩
        · obtain rfl : M = false := HBD.out (by rw [HFO.out, show decide (0 ≤ fL ∧ fL ≤ 3) = false from decide_eq_false (by omega)]; rfl)
          clear HBD HTD HNO HYES HFO
          go_wp2
          go_ret
          exact ⟨rfl, HBA.out⟩
        · rw [show decide (0 ≤ fL ∧ fL ≤ 3) = true from decide_eq_true (by omega), Bool.true_and] at HFO
          have NK := hide (numok_any fN)
          obtain ⟨o, ho⟩ : ∃ o, okN fN = o := ⟨_, rfl⟩
          rw [ho] at HFO NK
          rw [HFO.out] at HBD HTD
          clear HFO ho
          go_wp2_with fail
          refine (NK.out _).mono ?_
          rintro e w1 ⟨rfl, rfl⟩
          clear NK c0 c1
          cases o with
          | false =>
            obtain rfl : M = false := HBD.out (by first | rfl | trivial)
            clear HBD HTD HNO HYES
            go_wp2
            go_ret
            exact ⟨rfl, HBA.out⟩
          | true =>
            have HT := hide (HTD.out (by first | rfl | trivial))
            clear HBD HTD
            go_wp2
            go_roundw
            case rel => exact ⟨k + 1, by omega, by go_num, HT, HBA⟩
            case measure => simp [intOf]; omega
      · obtain rfl : k = n := by omega
        have hall2 : l.all Fi.ok = true := by have := hall.out; rwa [List.take_of_length_le (by omega)] at this
        obtain rfl : M = true := HYES.out h40 hall2
        clear hall2 hall HNO HYES
        go_wp2
        go_ret
        exact ⟨rfl, hbel.out⟩
  · obtain rfl : M = false := HNO.out (.inl h40)
    clear HNO HYES H0
    have g3 : (40 : Int) < (n : Int) := by omega
    go_enter Try.func48, Try.ntmps48
    go_wp2
    go_ret
    exact ⟨rfl, Below.refl _ _⟩

set_option maxHeartbeats 1000000 in
theorem distinct_any (a : Option Addr) (n c : Nat) (l : List Fi) (w : World) (h : Fs w a n c l) (hn : n ≤ 40) (hc : c ≤ 9223372036854775807) :
    Calls Try.prog 49 #[.slice a n c] w fun e w' => e = .returned (.bool (once l)) ∧ Below w.heap.size w w' := by
  have hl := h.1
  have hnc := h.2.1.1
  have H0 := hide (fun W (hW : Below w.heap.size w W) => h.below hW (Nat.le_refl _))
  obtain ⟨M, hM⟩ : ∃ M, once l = M := ⟨_, rfl⟩
  have HM := hide hM
  rw [hM]
  clear h hM
  go_enter Try.func49, Try.ntmps49
  go_wp2_with fail
  go_loopw [9] (fun s wr => ∃ i : Nat, i ≤ n ∧ s = .int .i64 i ∧ Hid (once (l.take i) = true) ∧ Hid (Below w.heap.size w wr)) (fun s _ => n - (intOf s).toNat)
  case atStart => exact ⟨0, by omega, rfl, hide (by simp [once]), hide (Below.refl _ _)⟩
  case round =>
    obtain ⟨i, hi, rfl, honce, hbel⟩ := hrel
    by_cases hlt : i < n
    · obtain ⟨f, b, off, hf, rfl, c0, c1, hfw⟩ := fs_at (H0.out wr hbel.out) i hlt
      obtain ⟨fL, fN⟩ := f
      simp only at c0 c1
      have HF := hide hf
      have HBA := hide (hbel.out.alloc hbel.out.size (Obj.cells #[.int .i64 fL, .int .i64 fN] 29))
      have HCK := hide (show ∀ W, Below (wr.heap.size + 1) (wr.alloc (Obj.cells #[.int .i64 fL, .int .i64 fN] 29)) W → W.cell? ⟨wr.heap.size, 1, none⟩ = some (.int .i64 fN) from fun W hW => (hW.cell (p := ⟨wr.heap.size, 1, none⟩) (by show wr.heap.size < wr.heap.size + 1; omega)).trans (by simp [go_sem]))
      have hic : i ≤ c := by omega
      have g0 : (0 : Int) ≤ (i : Int) := by omega
      have g1 : (i : Int) ≤ (c : Int) := by omega
      clear hf hfw
      go_wp2_with fail
      generalize hwa : wr.alloc (Obj.cells #[.int .i64 fL, .int .i64 fN] 29) = wa at *
      have hsa : wa.heap.size = wr.heap.size + 1 := by rw [← hwa]; simp
      clear hwa
      obtain ⟨B, hB⟩ : ∃ B, wr.heap.size = B := ⟨_, rfl⟩
      rw [hB] at hsa HCK
      rw [hB]
      go_loopw [18] (fun s wr' => ∃ k : Nat, k ≤ i ∧ s = .int .i64 k ∧ Hid ((l.take k).all (fun g => !(g.N == fN)) = true) ∧ Hid (Below (B + 1) wa wr')) (fun s _ => i - (intOf s).toNat)
      case atStart => exact ⟨0, by omega, rfl, hide (by simp), hide (Below.refl _ _)⟩
      case round =>
        obtain ⟨k, hk, rfl, hno, hbel2⟩ := hrel
        have hcf := HCK.out _ hbel2.out
        have hsz2 := hbel2.out.size
        rw [hsa] at hsz2
        have hBW2 := hide (HBA.out.trans (hbel2.out.mono (by have := hbel.out.size; omega)))
        by_cases hlt2 : k < i
        · obtain ⟨g, b', off', hg, e9, d0, d1, hgw⟩ := fs_at (H0.out _ hBW2.out) k (by omega)
          injection e9 with e9
          injection e9 with e9 e8
          subst e9 e8
          obtain ⟨gL, gN⟩ := g
          simp only at d0 d1
          have hne : B < wr.heap.size := by omega
          have HBA2 := hide (hBW2.out.alloc hBW2.out.size (Obj.cells #[.int .i64 gL, .int .i64 gN] 29))
          have HBA3 := hide (hbel2.out.alloc (by omega) (Obj.cells #[.int .i64 gL, .int .i64 gN] 29))
          by_cases e : fN = gN
          · subst e
            have hMf : M = false := by rw [← HM.out]; exact once_bad hg HF.out hlt2 rfl
            subst hMf
            have q : (fN == fN) = true := by simp
            clear hg hgw
            go_wp2
            go_ret
            exact ⟨rfl, HBA2.out⟩
          · have q : (fN == gN) = false := by simpa using e
            have HN := hide (all_more hg (show (fun g : Fi => !(g.N == fN)) ⟨gL, gN⟩ = true by simpa using fun h => e h.symm) hno.out)
            clear hg e hgw
            go_wp2
            go_roundw
            case rel => exact ⟨k + 1, by omega, by go_num, HN, HBA3⟩
            case measure => simp [intOf]; omega
        · obtain rfl : k = i := by omega
          have HO := hide (once_more HF.out honce.out hno.out)
          go_wp2
          go_roundw
          case rel => exact ⟨k + 1, by omega, by go_num, HO, hBW2⟩
          case measure => simp [intOf]; omega
    · obtain rfl : i = n := by omega
      have hMt : M = true := by rw [← HM.out]; have := honce.out; rwa [List.take_of_length_le (by omega)] at this
      subst hMt
      go_wp2
      go_ret
      exact ⟨rfl, hbel.out⟩

/-- The block p holds the numbers ns. -/
def Uz (w : World) (p : Nat) (ns : List Int) : Prop := ∀ i z, ns[i]? = some z → w.cell? ⟨p, i, none⟩ = some (.int .u64 z)
def Iz (w : World) (p : Nat) (ns : List Int) : Prop := ∀ i z, ns[i]? = some z → w.cell? ⟨p, i, none⟩ = some (.int .i64 z)
def okV (n : Int) : Bool := decide (n ≤ 281474976710656)
theorem versok_any (p n : Nat) (ns : List Int) (w : World) (h : Uz w p ns) (hl : ns.length = n) (hn : n ≤ 9223372036854775807) :
    Calls Try.prog 50 #[.slice (some ⟨p, 0, none⟩) n n] w fun e w' => e = .returned (.bool (ns.all okV)) ∧ w' = w := by
  have H := hide h
  obtain ⟨M, hM⟩ : ∃ M, ns.all okV = M := ⟨_, rfl⟩
  have HM := hide hM
  rw [hM]
  clear h hM
  go_enter Try.func50, Try.ntmps50
  go_wp2_with fail
  go_loop [7] (fun s => ∃ i : Nat, i ≤ n ∧ s = .int .i64 i ∧ Hid ((ns.take i).all okV = true)) (fun s => n - (intOf s).toNat)
  case atStart => exact ⟨0, by omega, rfl, hide (by simp)⟩
  case round =>
    obtain ⟨i, hi, rfl, hall⟩ := hrel
    by_cases hlt : i < n
    · obtain ⟨z, hz⟩ : ∃ z, ns[i]? = some z := ⟨_, List.getElem?_eq_getElem (by rw [hl]; exact hlt)⟩
      have hcell := H.out i z hz
      by_cases hok : 281474976710656 < z
      · have hMf : M = false := by rw [← HM.out]; exact all_bad hz (show okV z = false from decide_eq_false (by omega))
        subst hMf
        clear hz
        go_wp2
        go_ret
        exact ⟨rfl, rfl⟩
      · have HT := hide (all_more hz (show okV z = true from decide_eq_true (by omega)) hall.out)
        clear hz
        go_wp2
        go_round
        case rel => exact ⟨i + 1, by omega, by go_num, HT⟩
        case measure => simp [intOf]; omega
    · obtain rfl : i = n := by omega
      have hMt : M = true := by rw [← HM.out]; have := hall.out; rwa [List.take_of_length_le (by omega)] at this
      subst hMt
      go_wp2
      go_ret
      exact ⟨rfl, rfl⟩

theorem vok_parts (V : Vw) : vok V = (okN V.lg && (flk V.f && (once V.f && [V.fl, V.ct, V.at9, V.ls].all okV))) := by
  unfold vok vwH flk okN okV
  cases h1 : V.f.all Fi.ok <;> cases h2 : once V.f <;> simp <;>
    (by_cases a1 : 1 ≤ V.lg <;> by_cases a2 : V.lg ≤ 1073741824 <;> by_cases a3 : V.f.length ≤ 40 <;> simp [a1, a2, a3])

end Go.Proofs.Ytgopcaemgcnapaa.Clep
