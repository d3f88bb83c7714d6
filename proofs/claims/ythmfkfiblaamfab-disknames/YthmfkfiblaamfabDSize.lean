/- What size of a Disk does when called (a walk over the translated program): for any Disk of at most 2^40 calls. -/
import Derived.Test.YthmfkfiblaamfabDFind
namespace Go.Proofs.Ythmfkfiblaamfab.Clep
open Go.RowKit Go.Maps
set_option linter.unusedVariables false

theorem fileAt_mem {fs : List Fl} {n : Int} {f : Fl} (h : fileAt fs n = some f) : f ∈ fs ∧ n = f.num := by
  refine ⟨List.mem_of_find?_eq_some h, ?_⟩
  have := List.find?_some h
  simp only [beq_iff_eq] at this
  exact this.symm
theorem fileAt_of {fs : List Fl} (hr : fs.Pairwise fun f g => f.num < g.num) {f : Fl} (hf : f ∈ fs) : fileAt fs f.num = some f := by
  induction fs with
  | nil => cases hf
  | cons g r ih =>
    rw [List.pairwise_cons] at hr
    unfold fileAt
    rcases List.mem_cons.1 hf with rfl | h
    · simp
    · have := hr.1 f h
      rw [List.find?_cons_of_neg (by simp; omega)]
      exact ih hr.2 h
theorem Ok.leads {fs : List Fl} {D : DataW Unit} (hr : fs.Pairwise fun f g => f.num < g.num) (hl : Leads fs D) (hc : Canon D) {k : Lit} {c : Int} (hat : ∀ zd, D.atKey k zd = i64L c) : ∃ f, fileAt fs c = some f := by
  obtain ⟨p, hp, _, h2⟩ := entry_of hc hat
  obtain ⟨f, hf, e⟩ := hl p hp
  rw [h2] at e
  have : c = f.num := by simpa [i64L] using e
  exact ⟨f, by rw [this]; exact fileAt_of hr hf⟩
theorem FileIs.cells {w : World} {G : Gh} {f : Fl} (h : FileIs w G f) : ∃ ao cap, w.heap[G.β f.num]? = some (.cells #[.slice ao f.bs.length cap, .int .i64 f.lasts] 62 (0, 0)) ∧
    Own w 0 (.slice ao f.bs.length cap) f.bs ∧ (∀ g, (Value.slice ao f.bs.length cap).ownBlock = some g → G.τ g = 7 + 2 * f.num) ∧ cap ≤ maxLen ∧ Bs w ao f.bs.length cap f.bs := by
  obtain ⟨v, h1, h2, h3⟩ := h.lies
  obtain ⟨ao, cap, rfl, hm, hb, _⟩ := own_bs h2 (range_of h.rng)
  exact ⟨ao, cap, h1, h2, h3, hm, hb⟩
theorem cell_of {w : World} {b i : Nat} {arr : Array Value} {T : TypeId} {fr : Nat × Nat} {v : Value} (h : w.heap[b]? = some (.cells arr T fr)) (hv : arr[i]? = some v) : w.cell? ⟨b, i, none⟩ = some v := by
  simp [World.cell?, h, hv]

set_option maxHeartbeats 400000 in
theorem size_any (R : Nat) (S : St) (G : Gh) (w : World) (h : DiskIs w R S G) (hm : S.calls ≤ 1099511627776) :
    Calls Try.prog 29 #[.pointer (some ⟨R, 0, none⟩)] w fun e w' => e = .returned (.int .i64 (usedS S)) ∧ Below w.heap.size w w' := by
  have hcn := hide (h.nm.canon lawS)
  have H := hide h
  obtain ⟨⟨c0, c1, c2, c3, c4⟩, ⟨c5, c6, c7, c8, c9⟩, fr⟩ := h.cells
  clear c0 c1 c2 c3 c4 c5 c6 c8 c9 fr h
  go_enter Try.func29, Try.ntmps29
  go_wp2_with (first
    | (at_range; refine wpList_range_own _ rfl _ 49 rfl 9 3 lawS Try.underlying49 _ G.bn _ _ rfl H.out.nm ?_; intro w0 hrg0 hg0 hs0)
    | go_in)
  have HR := hide hrg0
  have HB := hide ((Below.refl _ w).grown hg0 (Nat.le_refl _) (fun k hk => by cases hk))
  clear hrg0 hg0 hs0 c7
  go_frame
  go_loopw [3] (fun u wr => ∃ (left : Lit → Bool) (cnt : Nat), u = .int .i64 (upto S.files S.names left : Nat) ∧ Hid (wr.ranges Try.prog 9 (plainElem Try.prog 3) G.bn w.heap.size (Maps.size S.names) S.names left cnt) ∧ Hid (Below w.heap.size w wr)) (fun _ wr => wr.rangeLeft G.bn w.heap.size)
  case atStart => exact ⟨_, _, by rw [upto_start _ _ hcn.out]; rfl, HR, HB⟩
  case round =>
    obtain ⟨left, cnt, rfl, hrg, hbl⟩ := hrel
    go_wp2_with (first
      | (at_next; refine next_si _ rfl _ rfl G.bn w.heap.size _ _ _ _ rfl hrg.out ?_ ?_)
      | fail)
    · intro _ hl0
      have hu := hide (upto_end S left hl0)
      go_wp2
      go_ret
      exact ⟨by rw [hu.out]; rfl, hbl.out⟩
    · intro x c w1 cnt1 hwc hlk hat hrg1 hlt hg1 hs1 hen
      obtain ⟨f, hf⟩ := Ok.leads H.out.ok.rise H.out.ok.named hcn.out hat
      have B1 := hbl.out.grown hg1 hbl.out.size (fun k hk => by cases hk; exact Nat.le_refl _)
      have D1 := H.out.below B1
      have hu := upto_step S.files S.names left (key x) c hcn.out trivial hlk hat
      have hle := upto_le D1 (fun z => left z && !z.sameKey (key x))
      have hfl : flen S.files c = f.bs.length := by unfold flen; rw [hf]
      rw [hfl] at hu
      obtain ⟨ao, cap, hc, _, _, _, _⟩ := (D1.files f (fileAt_mem hf).1).cells
      have cf := cell_of (i := 0) hc rfl
      have c6 := D1.cells.2.1.2.1
      obtain ⟨DD, f1, f2, f3⟩ := D1.fm
      have hlook := look_file G rfl f1 f2 hwc
      rw [hf] at hlook
      simp only [ptrOf] at hlook
      have hmeas := hide (show w1.rangeLeft G.bn w.heap.size < wr.rangeLeft G.bn w.heap.size by rw [hrg1.left_eq, hrg.out.left_eq]; exact hlt)
      have HU := hide hu
      have HR1 := hide hrg1
      have HB1 := hide B1
      have hb1 : upto S.files S.names left + f.bs.length ≤ 274877906944000000 := by omega
      clear hu hrg1 B1 D1 hle hfl hc f1 f2 f3 hs1 hg1 hlt hat hlk hrg hbl hf
      generalize hU : upto S.files S.names left = U at *
      go_wp2
      go_roundw
      case rel => exact ⟨_, cnt1, by rw [HU.out]; go_num, HR1, HB1⟩
      case measure => exact hmeas.out

end Go.Proofs.Ythmfkfiblaamfab.Clep
