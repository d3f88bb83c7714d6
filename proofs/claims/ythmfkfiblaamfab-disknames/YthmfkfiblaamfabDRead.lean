/- What Read, Used, Calls and Sync of a Disk do when called (walks over the translated program): for any Disk of fewer than 2^40 calls, any name of at most 2^46 bytes. -/
import Derived.Test.YthmfkfiblaamfabDAppendW
namespace Go.Proofs.Ythmfkfiblaamfab.Clep
open Go.RowKit Go.Maps
set_option linter.unusedVariables false

def readS (S : St) (s : ByteArray) : Nat × List Int :=
  if okName s = false then (10, [])
  else if S.dead then (50, [])
  else match fileAt S.files (lk S.names s) with
    | none => (11, [])
    | some f => (0, f.bs)
theorem own_none (w : World) (B : Nat) : Own w B (.slice none 0 0) [] := ⟨rfl, .inl ⟨rfl, rfl⟩⟩
theorem own_slice {w : World} {B : Nat} {v : Value} {zs : List Int} (h : Own w B v zs) : ∃ ao cap, v = .slice ao zs.length cap := by
  obtain ⟨_, ⟨rfl, hn⟩ | ⟨g, cap, cur, rfl, _⟩⟩ := h
  · exact ⟨none, 0, by rw [hn]⟩
  · exact ⟨_, _, rfl⟩

set_option maxHeartbeats 400000 in
theorem read_any (R : Nat) (S : St) (G : Gh) (s : ByteArray) (w : World) (h : DiskIs w R S G) (hs : s.size ≤ 70368744177664) :
    Calls Try.prog 16 #[.pointer (some ⟨R, 0, none⟩), .string s] w fun e w' => ∃ ao cap, e = .returned (.tuple #[.slice ao (readS S s).2.length cap, .int .i64 (readS S s).1]) ∧ Own w' w.heap.size (.slice ao (readS S s).2.length cap) (readS S s).2 ∧ Below w.heap.size w w' := by
  have H := hide h
  have c4 := h.cells.1.2.2.2.2
  clear h
  go_enter Try.func16, Try.ntmps16
  go_wp2_with fail
  refine (isName_any s w hs).mono ?_
  rintro e w1 ⟨rfl, rfl⟩
  cases ho : okName s
  · have hr : readS S s = (10, []) := by unfold readS; rw [if_pos ho]
    have Hr := hide hr
    clear hr
    go_wp2
    go_ret2
    rw [Hr.out]
    exact ⟨none, 0, rfl, own_none _ _, Below.refl _ _⟩
  · cases hd : S.dead
    · rw [hd] at c4
      have hF := hide (find_disk R S G s w1 H.out hs)
      go_wp2_with fail
      refine hF.out.mono ?_
      rintro e w2 ⟨rfl, b2⟩
      have HD2 := hide (H.out.below b2)
      have HB2 := hide b2
      clear b2 hF c4
      cases hf : fileAt S.files (lk S.names s) with
      | none =>
        have hr : readS S s = (11, []) := by unfold readS; rw [if_neg (by rw [ho]; simp), if_neg (by rw [hd]; simp), hf]
        have Hr := hide hr
        clear hr
        simp only [ptrOf]
        go_wp2
        go_ret2
        rw [Hr.out]
        exact ⟨none, 0, rfl, own_none _ _, HB2.out⟩
      | some f =>
        have hr : readS S s = (0, f.bs) := by unfold readS; rw [if_neg (by rw [ho]; simp), if_neg (by rw [hd]; simp), hf]
        have Hr := hide hr
        clear hr
        simp only [ptrOf]
        have hmem := (fileAt_mem hf).1
        obtain ⟨fo, fc, hc, hO, hbk, hcm, hB⟩ := (HD2.out.files f hmem).cells
        have hfl := (HD2.out.files f hmem).len
        have cf := cell_of (i := 0) hc rfl
        simp at cf
        have HBB := hide hB
        clear hc hO hbk hB hcm
        go_wp2_with (first
          | (at_builtin; refine wpList_append_bytes rfl _ _ rfl w1.heap.size _ [] rfl (own_none _ _) fo f.bs.length fc f.bs rfl HBB.out (by simp; omega) HB2.out.size ?_; intro v4 w4 o4 g4)
          | fail)
        rw [List.nil_append] at o4
        obtain ⟨ao, cap, rfl⟩ := own_slice o4
        have HO4 := hide o4
        have HG4 := hide (HB2.out.trans g4)
        clear o4 g4
        go_wp2
        go_ret2
        rw [Hr.out]
        exact ⟨ao, cap, rfl, HO4.out, HG4.out⟩
    · have hr : readS S s = (50, []) := by unfold readS; rw [if_neg (by rw [ho]; simp), if_pos hd]
      have Hr := hide hr
      clear hr
      rw [hd] at c4
      go_wp2
      go_ret2
      rw [Hr.out]
      exact ⟨none, 0, rfl, own_none _ _, Below.refl _ _⟩
theorem calls_any (R : Nat) (S : St) (G : Gh) (w : World) (h : DiskIs w R S G) :
    Calls Try.prog 14 #[.pointer (some ⟨R, 0, none⟩)] w fun e w' => e = .returned (.int .i64 S.calls) ∧ w' = w := by
  have hl := load_at R 1 S.calls w h.cells.1.2.1
  have hc := h.ok
  go_enter Try.func14, Try.ntmps14
  go_wp2_with fail
  refine hl.mono ?_
  rintro e w' ⟨rfl, rfl⟩
  go_wp2
  go_ret
  exact ⟨rfl, rfl⟩
theorem used_any (R : Nat) (S : St) (G : Gh) (w : World) (h : DiskIs w R S G) (hm : S.calls ≤ 1099511627776) :
    Calls Try.prog 19 #[.pointer (some ⟨R, 0, none⟩)] w fun e w' => e = .returned (.int .i64 (if S.dead then 0 else usedS S : Nat)) ∧ Below w.heap.size w w' := by
  have c4 := h.cells.1.2.2.2.2
  have hz := hide (size_any R S G w h hm)
  clear h
  cases hd : S.dead
  · rw [hd] at c4
    go_enter Try.func19, Try.ntmps19
    go_wp2_with fail
    refine hz.out.mono ?_
    rintro e w' ⟨rfl, hb⟩
    go_wp2
    go_ret
    exact ⟨rfl, hb⟩
  · rw [hd] at c4
    go_enter Try.func19, Try.ntmps19
    go_wp2
    go_ret
    exact ⟨rfl, Below.refl _ _⟩

end Go.Proofs.Ythmfkfiblaamfab.Clep
