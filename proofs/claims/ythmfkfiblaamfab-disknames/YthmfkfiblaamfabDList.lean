/- What List of a Disk does when called (a walk over the translated program): for any Disk of at most 2^40 calls: its names, by bytes. -/
import Derived.Test.YthmfkfiblaamfabDLoop
import Derived.Test.YthmfkfiblaamfabDShelfS
namespace Go.Proofs.Ythmfkfiblaamfab.Clep
open Go.RowKit Go.Maps Go.Sort Go.Shelf
set_option linter.unusedVariables false

theorem keysS_any (b : Nat) (w : World) : Calls Try.prog 38 #[.map (some b)] w fun e w' => e = .returned (.func (.func 50) #[] #[.pointer (some ⟨w.heap.size, 0, none⟩)]) ∧ w' = w.alloc (.cells #[.map (some b)] 49) :=
  (callsIn_wide (n := 5)).1 (AnyZ.keys_in Try.keysS Fence.wide 5 trivial rfl (some b) w)
theorem sortsS (m : Nat) : AnyZ.SortsIn Try.prog Try.sortedS_ren Fence.wide m :=
  ⟨fun blk off cap ss W hH hblk hsz => callsIn_wide.2 (AnyM.slices_Sort_string Try.sortS blk off cap ss W hH hblk hsz),
   fun p cap W => callsIn_wide.2 (AnyM.slices_Sort_string_none Try.sortS p cap W)⟩
set_option maxHeartbeats 1000000 in
theorem sortedS_any (b nn : Nat) (D : DataW Unit) (w : World) (hown : w.ownsMap Try.prog 9 (plainElem Try.prog 3) b nn D) (hmax : Maps.size D ≤ maxLen) (hbytes : Maps.size D * 16 ≤ 140737488355328) :
    Calls Try.prog 37 #[.func (.func 50) #[] #[.pointer (some ⟨w.heap.size, 0, none⟩)]] (w.alloc (.cells #[.map (some b)] 49)) fun e w' => ∃ (v : Value) (ss : List (List UInt8)), e = .returned v ∧ ss.Perm (strKeys D) ∧
      w'.ownsRow (w.heap.size + 1) 9 1 v ss.length ((ss.mergeSort leB).map encStr) ∧ Below (w.heap.size + 1) (w.alloc (.cells #[.map (some b)] 49)) w' := by
  have hbl := hown.lt
  have hseq : SeqGives Fence.wide 2 Try.prog 50 #[.pointer (some ⟨w.heap.size, 0, none⟩)] encStr (fun ss => ss.Perm (strKeys D)) (Maps.size D) (w.alloc (.cells #[.map (some b)] 49)) :=
    AnyZ.keys_gives (ρ := Try.keysS_ren) { Try.keysS with } Fence.wide _ trivial rfl (by omega) w.heap.size b nn D _ (by simp) (by simp) (by
      obtain ⟨es, clock, hb, Ft, hs, hD⟩ := hown
      exact ⟨es, clock, (Below.heap_alloc _ _ b hbl).trans hb, Ft, hs, hD⟩)
  have cS := AnyZ.sorted_in Try.sortedS Fence.wide 5 trivial trivial trivial trivial rfl (by omega) (sortsS _) (enters_of Try.func49 (by kernel_rfl) rfl) 50 #[.pointer (some ⟨w.heap.size, 0, none⟩)] trivial (enters_of Try.func50 (by kernel_rfl) rfl) _ _ hmax hbytes _ hseq
  change CallsIn _ _ Try.prog 37 _ _ _ at cS
  refine ((callsIn_wide (n := 5)).1 cS).mono ?_
  rintro e w' ⟨v, ss, rfl, hS, hrow, hnil, hb⟩
  have hsz : (w.alloc (.cells #[.map (some b)] 49)).heap.size = w.heap.size + 1 := by simp
  rw [hsz] at hrow hb
  exact ⟨v, ss, rfl, hS, hrow, hb⟩

def namesL (S : St) : List (List UInt8) := (strKeys S.names).mergeSort leB
theorem row_below {w w' : World} {B e sz n : Nat} {v : Value} {xs : List Value} (h : w.ownsRow B e sz v n xs) (hb : Below w.heap.size w w') : w'.ownsRow B e sz v n xs :=
  owns_keep (τ := fun _ => 0) (t := fun _ => False) (Turn.of_below hb _) h (fun _ _ h => h)
theorem row_base {w : World} {B C e sz n : Nat} {v : Value} {xs : List Value} (h : w.ownsRow B e sz v n xs) (hc : C ≤ B) : w.ownsRow C e sz v n xs := by
  obtain ⟨hl, ⟨rfl, hn⟩ | ⟨g, cap, cur, rfl, hg, r⟩⟩ := h
  · exact ⟨hl, .inl ⟨rfl, hn⟩⟩
  · exact ⟨hl, .inr ⟨g, cap, cur, rfl, Nat.le_trans hc hg, r⟩⟩
set_option maxHeartbeats 400000 in
theorem list_h {F : Nat → Prop} {R : Nat} {S : St} {w : World} (h : Held F w R S) (hd : S.dead = false) (hm : S.calls ≤ 1099511627776) (hL : ∀ l ∈ namesL S, l.length ≤ 70368744177664) :
    Calls Try.prog 24 #[.pointer (some ⟨R, 0, none⟩)] w fun e w' => ∃ so sc, e = .returned (.slice so (namesL S).length sc) ∧ w'.ownsRow w.heap.size 9 1 (.slice so (namesL S).length sc) (namesL S).length ((namesL S).map encStr) ∧ Held F w' R S ∧ Below w.heap.size w w' := by
  have HH := hide h
  obtain ⟨G, D, hF⟩ := h
  have c4 := D.cells.1.2.2.2.2
  rw [hd] at c4
  have c7 := D.cells.2.1.2.2.1
  have hsz := D.ok.szn
  have SO := hide (sortedS_any G.bn _ S.names w D.nm (by unfold maxLen; omega) (by omega))
  have HL := hide hL
  clear D hF hL
  go_enter Try.func24, Try.ntmps24
  go_wp2_with fail
  refine (keysS_any _ _).mono ?_
  rintro e w1 ⟨rfl, rfl⟩
  go_wp2_with fail
  refine SO.out.mono ?_
  rintro e w2 ⟨v, ss, rfl, hS, hrow, hb2⟩
  have hms : ss.mergeSort leB = namesL S := mergeSort_of_perm hS
  have hln : ss.length = (namesL S).length := by rw [← hms]; exact (List.length_mergeSort ss).symm
  rw [hms, hln] at hrow
  obtain ⟨so, sc, rfl, hsc, hcell⟩ := row_slice hrow
  have HR := hide (row_base hrow (Nat.le_succ _))
  have HB := hide (((Below.refl w.heap.size w).alloc (Nat.le_refl _) (.cells #[.map (some G.bn)] 49)).trans (hb2.mono (Nat.le_succ _)))
  have hlm : (namesL S).length ≤ 1099511627776 := by
    have := hS.length_eq
    rw [hln] at this
    have h2 : (strKeys S.names).length = Maps.size S.names := by
      cases S.names <;> simp [strKeys, Maps.size]
    omega
  clear hrow hb2 hS hms hln SO hcell c4 c7
  generalize hNL : namesL S = NL at *
  have hNL' := hide hNL
  clear hNL
  go_wp2_with fail
  go_loopw [18] (fun i wr => ∃ k : Nat, i = .int .i64 k ∧ k ≤ NL.length ∧ Hid (wr.ownsRow w.heap.size 9 1 (.slice so NL.length sc) NL.length (NL.map encStr)) ∧ Hid (Below w.heap.size w wr)) (fun i _ => NL.length - (intOf i).toNat)
  case atStart => exact ⟨0, rfl, by omega, HR, HB⟩
  case round =>
    obtain ⟨k, rfl, hk, hown, hbel⟩ := hrel
    by_cases hlt : k < NL.length
    · obtain ⟨so', sc', e', hsc', hcell⟩ := row_slice hown.out
      injection e' with e1 e2 e3
      subst e1 e3
      obtain ⟨g, rfl, hgc⟩ := hcell (by omega)
      have hck : wr.cell? ⟨g, k, none⟩ = some (encStr NL[k]) := hgc k _ (by simp [hlt])
      have hfr := hown.out.frozenAt k
      have hgl : g < wr.heap.size := World.block_lt_of_cell? wr _ hck
      have CL := hide (strClone_any ⟨NL[k].toArray⟩ wr (by have := HL.out _ (List.getElem_mem hlt); simpa [ByteArray.size] using this))
      simp only [encStr] at hck
      have HX := hide (show (NL.map encStr).set k (encStr NL[k]) = NL.map encStr by
        rw [show encStr NL[k] = (NL.map encStr)[k]'(by simpa using hlt) from by simp, List.set_getElem_self])
      have HG := hide (show w.heap.size ≤ g from (World.ownsRow.lt hown.out g rfl).1)
      generalize hsk : (⟨NL[k].toArray⟩ : ByteArray) = sk at *
      have HSK := hide hsk
      clear hsk hgc
      go_wp2_with fail
      refine CL.out.mono ?_
      rintro e w4 ⟨rfl, hb4⟩
      have hown4 := row_below hown.out hb4
      have hck4 : w4.cell? ⟨g, k, none⟩ = some (.string sk) := (hb4.cell (p := ⟨g, k, none⟩) hgl).trans hck
      have hfr4 := hown4.frozenAt k
      have HS := hide (hown4.stored k (.string sk))
      have HB4 := hide (hbel.out.trans (hb4.mono hbel.out.size))
      clear hb4 hown4 CL hck hfr
      go_wp2
      go_roundw
      case rel =>
        refine ⟨k + 1, by go_num, by omega, hide ?_, hide (HB4.out.setCell (p := ⟨g, k, none⟩) HG.out _)⟩
        have := HS.out.1
        rw [← HSK.out] at this
        rw [show (Value.string ⟨NL[k].toArray⟩) = encStr NL[k] from rfl, HX.out] at this
        rw [← HSK.out]
        exact this
      case measure => simp [intOf]; omega
    · have h8 : k = NL.length := by omega
      subst h8
      have HE := hide (HH.out.same hbel.out).1
      go_wp2
      go_ret
      rw [hNL'.out]
      exact ⟨so, sc, rfl, hown.out, HE.out, hbel.out⟩

end Go.Proofs.Ythmfkfiblaamfab.Clep
