/- What the package's awake does when called (a walk over the translated program). No conditions. -/
import Derived.Test.YtcbphalhjajapaaHPick
namespace Go.Proofs.Ytcbphalhjajapaa.Clep
open Go.RowKit
set_option linter.unusedVariables false
set_option linter.unusedSimpArgs false

/-- A row of files in a block of its own. -/
theorem hs_of_ek {w : World} {p : Nat} {l : List He} {T : TypeId} (h : Ek w p (hcs l).toArray T) (hok : ∀ x ∈ l, x.ok w) (c : Nat) (hc : l.length ≤ c) : Hs w (some ⟨p, 0, none⟩) l.length c l :=
  ⟨rfl, ⟨hc, fun e => by cases e⟩, hok, fun _ => ⟨p, 0, rfl, fun i x j u hx hu => by
    have hj : j < 5 := by have := (List.getElem?_eq_some_iff.1 hu).1; simpa [He.cs] using this
    refine h.cell ?_
    rw [List.getElem?_toArray, show 0 + i * 5 + j = i * 5 + j from by omega, hcs_get l i j x hx hj]
    exact hu⟩⟩
def e4 (k : Int) : He := ⟨k, 0, none, 0, [], none, 0, [], 0⟩
theorem e4_ok (w : World) (k : Int) (h : hi64 k) : (e4 k).ok w := ⟨⟨bs_nil w, Nat.zero_le _⟩, ⟨bs_nil w, Nat.zero_le _⟩, h, (show hi64 0 from ⟨by decide, by decide⟩), (show hi64 0 from ⟨by decide, by decide⟩)⟩
def l4 : List He := [e4 1, e4 2, e4 3, e4 4]
theorem l4_ok (w : World) : ∀ x ∈ l4, x.ok w := by
  intro x hx
  simp only [l4, List.mem_cons, List.not_mem_nil, or_false] at hx
  rcases hx with rfl | rfl | rfl | rfl <;> exact e4_ok w _ ⟨by decide, by decide⟩
theorem mild_of {l : List He} (h1 : l.length ≤ 4) (h2 : ∀ x ∈ l, x.M = 0) : Mild l := ⟨by omega, fun x hx => by rw [h2 x hx]; omega⟩
theorem l4_M : ∀ x ∈ l4, x.M = 0 := by
  intro x hx
  simp only [l4, List.mem_cons, List.not_mem_nil, or_false] at hx
  rcases hx with rfl | rfl | rfl | rfl <;> rfl
theorem l4_low : low l4 = some 0 := by decide
theorem l4_low3 : low (l4.take 3) = none := by decide
theorem l4_pick : (pickE l4).1.length = 4 ∧ (pickE l4).2 = (1, true) := by
  unfold pickE
  rw [l4_low]
  refine ⟨?_, rfl⟩
  show (numZ l4 (plZ l4 0)).length = 4
  unfold numZ plZ
  rw [List.length_map, List.length_mergeSort]
  decide
set_option maxRecDepth 100000 in
set_option maxHeartbeats 1000000 in
theorem awake_any (w : World) : Calls Try.prog 10 #[] w fun e w' => e = .returned (.bool true) ∧ Below w.heap.size w w' := by
  have A1 := (Below.refl w.heap.size w).alloc (Nat.le_refl _) (Obj.cells (hcs l4).toArray 27)
  have hs1 : Hs (w.alloc (Obj.cells (hcs l4).toArray 27)) (some ⟨w.heap.size, 0, none⟩) 4 4 l4 := hs_of_ek (ek_new w _ _) (l4_ok _) 4 (by decide)
  have HM : Mild l4 := mild_of (by decide) l4_M
  have HM3 : Mild (l4.take 3) := mild_of (by decide) (fun x hx => l4_M x (List.mem_of_mem_take hx))
  have HP := hide (pick_any _ 4 4 l4 _ hs1 HM)
  have HD := hide (fun W (hW : Below (w.alloc (Obj.cells (hcs l4).toArray 27)).heap.size (w.alloc (Obj.cells (hcs l4).toArray 27)) W) => done_any _ 4 4 l4 W (hs1.below hW (Nat.le_refl _)) HM)
  have HD3 := hide (fun W (hW : Below (w.alloc (Obj.cells (hcs l4).toArray 27)).heap.size (w.alloc (Obj.cells (hcs l4).toArray 27)) W) => done_any _ 3 4 (l4.take 3) W ((hs1.take 3 (by decide)).below hW (Nat.le_refl _)) HM3)
  rw [l4_low] at HD
  rw [l4_low3] at HD3
  have HL := hide l4_pick
  have HA := hide A1
  clear A1 hs1 HM HM3
  rw [show (Obj.cells (hcs l4).toArray 27) = Obj.cells #[.int .i64 1, .int .i64 0, .slice none 0 0, .slice none 0 0, .int .i64 0, .int .i64 2, .int .i64 0, .slice none 0 0, .slice none 0 0, .int .i64 0, .int .i64 3, .int .i64 0, .slice none 0 0, .slice none 0 0, .int .i64 0, .int .i64 4, .int .i64 0, .slice none 0 0, .slice none 0 0, .int .i64 0] 27 from rfl] at HP HD HD3 HA
  go_enter Try.func10, Try.ntmps10
  go_wp2_with fail
  generalize w.alloc (Obj.cells #[.int .i64 1, .int .i64 0, .slice none 0 0, .slice none 0 0, .int .i64 0, .int .i64 2, .int .i64 0, .slice none 0 0, .slice none 0 0, .int .i64 0, .int .i64 3, .int .i64 0, .slice none 0 0, .slice none 0 0, .int .i64 0, .int .i64 4, .int .i64 0, .slice none 0 0, .slice none 0 0, .int .i64 0] 27) = wa at *
  refine HP.out.mono ?_
  rintro e w1 ⟨v, rfl, ho, hb⟩
  obtain ⟨pa, pc, rfl⟩ : ∃ a c, v = .slice a (pickE l4).1.length c := by
    obtain ⟨hl, ⟨rfl, hn⟩ | ⟨g, cap, cur, rfl, _⟩⟩ := ho
    · exact ⟨none, 0, by rw [hn]⟩
    · exact ⟨_, _, rfl⟩
  rw [HL.out.1, HL.out.2]
  have HB1 := hide hb
  have hd := hide (HD.out w1 hb)
  clear ho hb HP HL
  go_wp2_with fail
  refine hd.out.mono ?_
  rintro e w2 ⟨rfl, hb2⟩
  have HB2 := hide (HB1.out.trans (hb2.mono HB1.out.size))
  have hd3 := hide (HD3.out w2 HB2.out)
  clear hb2 hd HB1
  go_wp2_with fail
  refine hd3.out.mono ?_
  rintro e w3 ⟨rfl, hb3⟩
  have HB3 := hide (HA.out.trans ((HB2.out.trans (hb3.mono HB2.out.size)).mono HA.out.size))
  clear hb3 hd3
  go_wp2
  go_ret
  exact ⟨rfl, HB3.out⟩

end Go.Proofs.Ytcbphalhjajapaa.Clep
