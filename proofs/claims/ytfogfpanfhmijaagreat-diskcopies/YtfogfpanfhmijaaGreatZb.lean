/- A call of both Disks (the statements' own function Do): Append. -/
import Derived.Test.YtfogfpanfhmijaaGreatZa
import Derived.Test.YtfogfpanfhmijaaGreatYj
namespace Go.Proofs.YtfogfpanfhmijaaGreat.Clep
open Go.RowKit Go.Maps
set_option linter.unusedVariables false

theorem bsOf_nums {zs : List Int} (h : ∀ z ∈ zs, 0 ≤ z ∧ z < 256) : bsOf (strOfNums zs) = zs := by
  unfold bsOf strOfNums
  simp only [List.map_map]
  conv => rhs; rw [← List.map_id zs]
  apply List.map_congr_left
  intro z hz
  have := h z hz
  show ((UInt8.ofNat z.toNat).toNat : Int) = z
  simp
  omega
set_option maxHeartbeats 4000000 in
set_option maxRecDepth 8000 in
theorem do1 {B : Nat} {w : World} {R : Nat} {S : St} {Q : Nat} {T : RSt} (p : Pair B w R S Q T) (r : Rel S T) (nm : NmOk T) (hc : T.calls < 1000) (n : Int) (hn : -9223372036854775808 ≤ n ∧ n ≤ 9223372036854775807) (a b : ByteArray) (ka : Option Addr) (kl kc : Nat) (ha : a.size ≤ 100) :
    Calls Tryz.prog 8 #[.pointer (some ⟨R, 0, none⟩), .pointer (some ⟨Q, 0, none⟩), opV 1 n a b (.slice ka kl kc)] w fun e w' => e = .returned (.bool true) ∧ Done B R Q T w w' := by
  have hbase := p.base
  obtain ⟨L, hL, hL2⟩ := andm (n / 256) 255 (by omega)
  have hL' : bits .and .i64 (n / 256) 255 = (L : Int) := hL
  clear hL
  have x2 : (w.alloc (.cells #[.int .i64 1, .int .i64 n, .string a, .string b, .slice ka kl kc] 30)).cell? ⟨w.heap.size, 2, none⟩ = some (.string a) := cell_of (MapKept.heap_alloc w _).1 rfl
  have hbx : w.heap.size < (w.alloc (.cells #[.int .i64 1, .int .i64 n, .string a, .string b, .slice ka kl kc] 30)).heap.size := by simp
  have BX := hide ((Below.refl w.heap.size w).alloc (Nat.le_refl _) (.cells #[.int .i64 1, .int .i64 n, .string a, .string b, .slice ka kl kc] 30))
  have BY := hide (fun W => bytes_all n L W (by omega) hn)
  have hrg := byt_range n L
  have hbl := byt_len n L
  have hbs := bsOf_nums hrg
  have hXs : (strOfNums (byt n L)).size ≤ 1000 := by rw [str_size, hbl]; omega
  have cP := hide (fun W hb ao len cap h1 h2 => append_p (W := W) p r hc a (strOfNums (byt n L)) ha hXs hb ao len cap h1 h2)
  have cR := hide (fun W S' (p' : Pair B W R S' Q T) => append_r p' hc a (strOfNums (byt n L)) ha hXs)
  have FIN := hide (show ∀ w', Pair B w' R (appendS S a (bsOf (strOfNums (byt n L)))).2 Q (appT T a (strOfNums (byt n L))).2 → Below B w w' → Done B R Q T w w' from fun w' p' b' => ⟨_, _, (append_rel r hc a (strOfNums (byt n L))).2, nm_append nm a _, appended_le T a _, p', b'⟩)
  rw [hbs] at cP FIN
  have SB := hide (fun W => str_bytes W (byt n L) hrg)
  rw [hbl] at SB
  unfold opV
  generalize byt n L = zs at *
  generalize strOfNums zs = X at *
  generalize (appT T a X).1 = E at *
  generalize (appT T a X).2 = T' at *
  generalize (appendS S a zs).2 = S' at *
  clear p hbs
  go_enter Tryz.func8, Tryz.ntmps8
  go_wp2_with fail
  refine (BY.out _).mono ?_
  rintro e w1 ⟨rfl, b1⟩
  have y2 : w1.drew.cell? ⟨w.heap.size, 2, none⟩ = some (.string a) := (b1.cell (p := ⟨w.heap.size, 2, none⟩) hbx).trans x2
  have B1 := hide (show Below w.heap.size w w1.drew from (BX.out.trans (b1.mono (Nat.le_of_lt hbx))).drew)
  have hb1 : w.heap.size < w1.drew.heap.size := Nat.lt_of_lt_of_le hbx b1.size
  obtain ⟨cap, w3, hcv, hcap, hb3, hB3, _, hlt3⟩ := SB.out w1.drew
  have y3 := (hb3.out.cell (p := ⟨w.heap.size, 2, none⟩) hb1).trans y2
  have B3 := hide (B1.out.trans (hb3.out.mono (Nat.le_of_lt hb1)))
  have PA := hide (cP.out w3 B3.out _ L cap hB3.out (fun g off e => by cases e; exact ⟨Nat.le_of_lt hb1, hlt3.out⟩))
  have hb3' : w.heap.size < w3.heap.size := Nat.lt_of_lt_of_le hb1 hb3.out.size
  have KX := hide (show ∀ w4 : World, (∀ i, w.heap.size ≤ i → i < w3.heap.size → w4.heap[i]? = w3.heap[i]?) → w4.cell? ⟨w.heap.size, 2, none⟩ = some (.string a) from fun w4 k => (World.cell?_of_block (w := w3) (k _ (Nat.le_refl _) hb3')).trans y3)
  clear x2 b1
  generalize w.heap.size = bx at *
  go_wp2_with fail
  go_region_with (first
    | (go_at_call 12; refine PA.out.mono ?_; rintro e w4 ⟨rfl, p4, b4, k4⟩; have y4 := KX.out w4 k4)
    | (go_at_call 20; refine (cR.out _ _ p4).mono ?_; rintro e w5 ⟨rfl, p5, b5⟩))
  all_goals
    have HP5 := hide p5
    have HB5 := hide ((B3.out.mono hbase).trans (b4.trans b5))
    clear p4 p5 b4 b5 k4
    go_wp2
    go_ret
    exact ⟨rfl, FIN.out _ HP5.out HB5.out⟩

end Go.Proofs.YtfogfpanfhmijaaGreat.Clep
