/- A call of both Disks (the statements' own function Do): Sync, Rename, Remove, SyncDir. -/
import Derived.Test.YtfogfpanfhmijaaGreatYx
namespace Go.Proofs.YtfogfpanfhmijaaGreat.Clep
open Go.RowKit Go.Maps
set_option linter.unusedVariables false

theorem synced_le (T : RSt) (s : ByteArray) : (syncT T s).2.calls ≤ T.calls + 1 := by
  unfold syncT syncB
  split
  · split
    · exact Nat.le_refl _
    · split <;> exact Nat.le_refl _
  · exact Nat.le_succ _
theorem removed_le (T : RSt) (s : ByteArray) : (rmT T s).2.calls ≤ T.calls + 1 := by
  unfold rmT rmB
  split
  · split
    · exact Nat.le_refl _
    · split <;> exact Nat.le_refl _
  · exact Nat.le_succ _
theorem renamed_le (T : RSt) (s t : ByteArray) : (rnT T s t).2.calls ≤ T.calls + 1 := by
  unfold rnT rnB
  split
  · split
    · exact Nat.le_refl _
    · split
      · exact Nat.le_refl _
      · split <;> exact Nat.le_refl _
  · exact Nat.le_succ _
theorem syncedDir_le (T : RSt) : (sdT T).2.calls ≤ T.calls + 1 := by
  unfold sdT sdB
  split <;> exact Nat.le_refl _
theorem sync_p {B : Nat} {w W : World} {R : Nat} {S : St} {Q : Nat} {T : RSt} (p : Pair B w R S Q T) (r : Rel S T) (hc : T.calls < 1000) (s : ByteArray) (hs : s.size ≤ 100) (hb : Below w.heap.size w W) :
    Calls Tryz.prog 21 #[.pointer (some ⟨R, 0, none⟩), .string s] W fun e w' => e = .returned (.int .i64 (syncT T s).1) ∧ Pair B w' R (syncS S s).2 Q T ∧ Below B W w' ∧ ∀ i, w.heap.size ≤ i → i < W.heap.size → w'.heap[i]? = W.heap[i]? := by
  obtain ⟨F, hd, hB, hN, cl⟩ := p.progW hb
  refine (sync_h s (E := (syncS S s).1) (S' := (syncS S s).2) rfl hd (by rw [r.calls]; omega) (by omega)).mono ?_
  rintro e w' ⟨rfl, hh, hs'⟩
  obtain ⟨p', b'⟩ := cl w' _ hh hs'
  exact ⟨by rw [(sync_rel r hc s).1], p', b', fun i h1 h2 => hs'.block i (hN i h1 h2)⟩
theorem sync_r {B : Nat} {w : World} {R : Nat} {S : St} {Q : Nat} {T : RSt} (p : Pair B w R S Q T) (hc : T.calls < 1000) (s : ByteArray) (hs : s.size ≤ 100) :
    Calls Tryz.prog 22 #[.pointer (some ⟨Q, 0, none⟩), .string s] w fun e w' => e = .returned (.int .i64 (syncT T s).1) ∧ Pair B w' R S Q (syncT T s).2 ∧ Below B w w' := by
  obtain ⟨P, fv, nv, lv, ov, rf, hP, _, cl⟩ := p.refd
  refine (syncT_any Q T P fv nv lv ov s w rf hs hc).mono ?_
  rintro e w' ⟨rfl, hr, hg⟩
  exact ⟨rfl, cl w' _ hr hg⟩
set_option maxHeartbeats 4000000 in
set_option maxRecDepth 8000 in
theorem do2 {B : Nat} {w : World} {R : Nat} {S : St} {Q : Nat} {T : RSt} (p : Pair B w R S Q T) (r : Rel S T) (nm : NmOk T) (hc : T.calls < 1000) (n : Int) (a b : ByteArray) (ka : Option Addr) (kl kc : Nat) (ha : a.size ≤ 100) (hb : b.size ≤ 100) :
    Calls Tryz.prog 8 #[.pointer (some ⟨R, 0, none⟩), .pointer (some ⟨Q, 0, none⟩), opV 2 n a b (.slice ka kl kc)] w fun e w' => e = .returned (.bool true) ∧ Done B R Q T w w' := by
  have cP := hide (fun W (hW : Below w.heap.size w W) => sync_p p r hc a ha hW)
  have cR := hide (fun W S' (p' : Pair B W R S' Q T) => sync_r p' hc a ha)
  have FIN := hide (show ∀ w', Pair B w' R (syncS S a).2 Q (syncT T a).2 → Below B w w' → Done B R Q T w w' from fun w' p' b' => ⟨_, _, (sync_rel r hc a).2, nm_sync nm a, synced_le T a, p', b'⟩)
  have hbase := p.base
  unfold opV
  generalize (syncT T a).1 = E at *
  generalize (syncT T a).2 = T' at *
  generalize (syncS S a).2 = S' at *
  clear p
  go_enter Tryz.func8, Tryz.ntmps8
  have BX := hide ((Below.refl w.heap.size w).alloc (Nat.le_refl _) (.cells #[.int .i64 2, .int .i64 n, .string a, .string b, .slice ka kl kc] 30))
  have x2 : (w.alloc (.cells #[.int .i64 2, .int .i64 n, .string a, .string b, .slice ka kl kc] 30)).cell? ⟨w.heap.size, 2, none⟩ = some (.string a) := cell_of (MapKept.heap_alloc w _).1 rfl
  have x3 : (w.alloc (.cells #[.int .i64 2, .int .i64 n, .string a, .string b, .slice ka kl kc] 30)).cell? ⟨w.heap.size, 3, none⟩ = some (.string b) := cell_of (MapKept.heap_alloc w _).1 rfl
  have hbx : w.heap.size < (w.alloc (.cells #[.int .i64 2, .int .i64 n, .string a, .string b, .slice ka kl kc] 30)).heap.size := by simp
  go_wp2_with fail
  generalize w.alloc (.cells #[.int .i64 2, .int .i64 n, .string a, .string b, .slice ka kl kc] 30) = wA at *
  have BD := hide BX.out.drew
  generalize hbb : w.heap.size = bx at *
  have KX := hide (show ∀ w1 : World, (∀ i, bx ≤ i → i < wA.drew.heap.size → w1.heap[i]? = wA.drew.heap[i]?) → w1.cell? ⟨bx, 2, none⟩ = some (.string a) ∧ w1.cell? ⟨bx, 3, none⟩ = some (.string b) from fun w1 k1 => ⟨(World.cell?_of_block (w := wA.drew) (k1 bx (Nat.le_refl _) hbx)).trans x2, (World.cell?_of_block (w := wA.drew) (k1 bx (Nat.le_refl _) hbx)).trans x3⟩)
  go_region_with (first
    | (go_at_call 21; refine (cP.out _ BD.out).mono ?_; rintro e w1 ⟨rfl, p1, b1, k1⟩; obtain ⟨y2, y3⟩ := KX.out w1 k1)
    | (go_at_call 22; refine (cR.out _ _ p1).mono ?_; rintro e w2 ⟨rfl, p2, b2⟩))
  all_goals
    have HP2 := hide p2
    have HB2 := hide ((BD.out.mono hbase).trans (b1.trans b2))
    clear p1 p2 b1 b2 k1
    go_wp2
    go_ret
    exact ⟨rfl, FIN.out _ HP2.out HB2.out⟩
theorem remove_p {B : Nat} {w W : World} {R : Nat} {S : St} {Q : Nat} {T : RSt} (p : Pair B w R S Q T) (r : Rel S T) (hc : T.calls < 1000) (s : ByteArray) (hs : s.size ≤ 100) (hb : Below w.heap.size w W) :
    Calls Tryz.prog 25 #[.pointer (some ⟨R, 0, none⟩), .string s] W fun e w' => e = .returned (.int .i64 (rmT T s).1) ∧ Pair B w' R (rmvS S s).2 Q T ∧ Below B W w' ∧ ∀ i, w.heap.size ≤ i → i < W.heap.size → w'.heap[i]? = W.heap[i]? := by
  obtain ⟨F, hd, hB, hN, cl⟩ := p.progW hb
  refine (remove_h s (E := (rmvS S s).1) (S' := (rmvS S s).2) rfl hd (by rw [r.calls]; omega) (by omega)).mono ?_
  rintro e w' ⟨rfl, hh, hs'⟩
  obtain ⟨p', b'⟩ := cl w' _ hh hs'
  exact ⟨by rw [(rmv_rel r hc s).1], p', b', fun i h1 h2 => hs'.block i (hN i h1 h2)⟩
theorem remove_r {B : Nat} {w : World} {R : Nat} {S : St} {Q : Nat} {T : RSt} (p : Pair B w R S Q T) (hc : T.calls < 1000) (s : ByteArray) (hs : s.size ≤ 100) :
    Calls Tryz.prog 26 #[.pointer (some ⟨Q, 0, none⟩), .string s] w fun e w' => e = .returned (.int .i64 (rmT T s).1) ∧ Pair B w' R S Q (rmT T s).2 ∧ Below B w w' := by
  obtain ⟨P, fv, nv, lv, ov, rf, hP, _, cl⟩ := p.refd
  refine (rmT_any Q T P fv nv lv ov s w rf hs hc hP).mono ?_
  rintro e w' ⟨rfl, hr, hg⟩
  exact ⟨rfl, cl w' _ hr hg⟩
set_option maxHeartbeats 4000000 in
set_option maxRecDepth 8000 in
theorem do4 {B : Nat} {w : World} {R : Nat} {S : St} {Q : Nat} {T : RSt} (p : Pair B w R S Q T) (r : Rel S T) (nm : NmOk T) (hc : T.calls < 1000) (n : Int) (a b : ByteArray) (ka : Option Addr) (kl kc : Nat) (ha : a.size ≤ 100) (hb : b.size ≤ 100) :
    Calls Tryz.prog 8 #[.pointer (some ⟨R, 0, none⟩), .pointer (some ⟨Q, 0, none⟩), opV 4 n a b (.slice ka kl kc)] w fun e w' => e = .returned (.bool true) ∧ Done B R Q T w w' := by
  have cP := hide (fun W (hW : Below w.heap.size w W) => remove_p p r hc a ha hW)
  have cR := hide (fun W S' (p' : Pair B W R S' Q T) => remove_r p' hc a ha)
  have FIN := hide (show ∀ w', Pair B w' R (rmvS S a).2 Q (rmT T a).2 → Below B w w' → Done B R Q T w w' from fun w' p' b' => ⟨_, _, (rmv_rel r hc a).2, nm_remove nm a, removed_le T a, p', b'⟩)
  have hbase := p.base
  unfold opV
  generalize (rmT T a).1 = E at *
  generalize (rmT T a).2 = T' at *
  generalize (rmvS S a).2 = S' at *
  clear p
  go_enter Tryz.func8, Tryz.ntmps8
  have BX := hide ((Below.refl w.heap.size w).alloc (Nat.le_refl _) (.cells #[.int .i64 4, .int .i64 n, .string a, .string b, .slice ka kl kc] 30))
  have x2 : (w.alloc (.cells #[.int .i64 4, .int .i64 n, .string a, .string b, .slice ka kl kc] 30)).cell? ⟨w.heap.size, 2, none⟩ = some (.string a) := cell_of (MapKept.heap_alloc w _).1 rfl
  have x3 : (w.alloc (.cells #[.int .i64 4, .int .i64 n, .string a, .string b, .slice ka kl kc] 30)).cell? ⟨w.heap.size, 3, none⟩ = some (.string b) := cell_of (MapKept.heap_alloc w _).1 rfl
  have hbx : w.heap.size < (w.alloc (.cells #[.int .i64 4, .int .i64 n, .string a, .string b, .slice ka kl kc] 30)).heap.size := by simp
  go_wp2_with fail
  generalize w.alloc (.cells #[.int .i64 4, .int .i64 n, .string a, .string b, .slice ka kl kc] 30) = wA at *
  have BD := hide BX.out.drew
  generalize hbb : w.heap.size = bx at *
  have KX := hide (show ∀ w1 : World, (∀ i, bx ≤ i → i < wA.drew.heap.size → w1.heap[i]? = wA.drew.heap[i]?) → w1.cell? ⟨bx, 2, none⟩ = some (.string a) ∧ w1.cell? ⟨bx, 3, none⟩ = some (.string b) from fun w1 k1 => ⟨(World.cell?_of_block (w := wA.drew) (k1 bx (Nat.le_refl _) hbx)).trans x2, (World.cell?_of_block (w := wA.drew) (k1 bx (Nat.le_refl _) hbx)).trans x3⟩)
  go_region_with (first
    | (go_at_call 25; refine (cP.out _ BD.out).mono ?_; rintro e w1 ⟨rfl, p1, b1, k1⟩; obtain ⟨y2, y3⟩ := KX.out w1 k1)
    | (go_at_call 26; refine (cR.out _ _ p1).mono ?_; rintro e w2 ⟨rfl, p2, b2⟩))
  all_goals
    have HP2 := hide p2
    have HB2 := hide ((BD.out.mono hbase).trans (b1.trans b2))
    clear p1 p2 b1 b2 k1
    go_wp2
    go_ret
    exact ⟨rfl, FIN.out _ HP2.out HB2.out⟩
theorem syncDir_p {B : Nat} {w W : World} {R : Nat} {S : St} {Q : Nat} {T : RSt} (p : Pair B w R S Q T) (r : Rel S T) (hc : T.calls < 1000) (hb : Below w.heap.size w W) :
    Calls Tryz.prog 15 #[.pointer (some ⟨R, 0, none⟩)] W fun e w' => e = .returned (.int .i64 (sdT T).1) ∧ Pair B w' R (syncDirS S).2 Q T ∧ Below B W w' := by
  obtain ⟨F, hd, hB, hN, cl⟩ := p.progW hb
  refine (syncDir_h (E := (syncDirS S).1) (S' := (syncDirS S).2) rfl hd (by rw [r.calls]; omega)).mono ?_
  rintro e w' ⟨rfl, hh, hs'⟩
  obtain ⟨p', b'⟩ := cl w' _ hh hs'
  exact ⟨by rw [(syncDir_rel r hc).1], p', b'⟩
theorem syncDir_r {B : Nat} {w : World} {R : Nat} {S : St} {Q : Nat} {T : RSt} (p : Pair B w R S Q T) (hc : T.calls < 1000) :
    Calls Tryz.prog 27 #[.pointer (some ⟨Q, 0, none⟩)] w fun e w' => e = .returned (.int .i64 (sdT T).1) ∧ Pair B w' R S Q (sdT T).2 ∧ Below B w w' := by
  obtain ⟨P, fv, nv, lv, ov, rf, hP, _, cl⟩ := p.refd
  refine (sdT_any Q T P fv nv lv ov w rf hc).mono ?_
  rintro e w' ⟨rfl, hr, hg⟩
  exact ⟨rfl, cl w' _ hr hg⟩
set_option maxHeartbeats 4000000 in
set_option maxRecDepth 8000 in
theorem do5 {B : Nat} {w : World} {R : Nat} {S : St} {Q : Nat} {T : RSt} (p : Pair B w R S Q T) (r : Rel S T) (nm : NmOk T) (hc : T.calls < 1000) (n : Int) (a b : ByteArray) (ka : Option Addr) (kl kc : Nat) :
    Calls Tryz.prog 8 #[.pointer (some ⟨R, 0, none⟩), .pointer (some ⟨Q, 0, none⟩), opV 5 n a b (.slice ka kl kc)] w fun e w' => e = .returned (.bool true) ∧ Done B R Q T w w' := by
  have cP := hide (fun W (hW : Below w.heap.size w W) => syncDir_p p r hc hW)
  have cR := hide (fun W S' (p' : Pair B W R S' Q T) => syncDir_r p' hc)
  have FIN := hide (show ∀ w', Pair B w' R (syncDirS S).2 Q (sdT T).2 → Below B w w' → Done B R Q T w w' from fun w' p' b' => ⟨_, _, (syncDir_rel r hc).2, nm_syncDir nm, syncedDir_le T, p', b'⟩)
  have hbase := p.base
  unfold opV
  generalize (sdT T).1 = E at *
  generalize (sdT T).2 = T' at *
  generalize (syncDirS S).2 = S' at *
  clear p
  go_enter Tryz.func8, Tryz.ntmps8
  have BX := hide ((Below.refl w.heap.size w).alloc (Nat.le_refl _) (.cells #[.int .i64 5, .int .i64 n, .string a, .string b, .slice ka kl kc] 30))
  go_wp2_with fail
  refine (cP.out _ BX.out).mono ?_
  rintro e w1 ⟨rfl, p1, b1⟩
  go_wp2_with fail
  refine (cR.out _ _ p1).mono ?_
  rintro e w2 ⟨rfl, p2, b2⟩
  have HP2 := hide p2
  have HB2 := hide ((BX.out.mono hbase).trans (b1.trans b2))
  clear p1 p2 b1 b2
  go_wp2
  go_ret
  exact ⟨rfl, FIN.out _ HP2.out HB2.out⟩

end Go.Proofs.YtfogfpanfhmijaaGreat.Clep
