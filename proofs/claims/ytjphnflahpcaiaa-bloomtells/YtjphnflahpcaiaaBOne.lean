/- A Filter that was made since the call began, beside other memory F; what its calls do; what awake does when called. No conditions but the kinds' bounds. -/
import Derived.Test.YtjphnflahpcaiaaBBytes
import Derived.Lib.SlBytesConst
namespace Go.Proofs.Ytjphnflahpcaiaa.Clep
open Go.RowKit
set_option linter.unusedVariables false

/-- The Filter in block M was made since w; F: what is not its own. -/
structure One (w W : World) (F : Nat → Prop) (M k sz N : Nat) : Prop where
  ex : ∃ P : Nat → Prop, Fl W M P k sz N ∧ ∀ b, P b → w.heap.size ≤ b ∧ ¬ F b
  size : w.heap.size ≤ W.heap.size
  flt : ∀ b, F b → b < W.heap.size
/-- All that changed is new, and none of F's. -/
def Nu (w : World) (F : Nat → Prop) (W W' : World) : Prop := Ch (fun b => w.heap.size ≤ b ∧ ¬ F b) W W'
theorem One.kb {w W : World} {F : Nat → Prop} {M k sz N : Nat} (h : One w W F M k sz N) : 1 ≤ k ∧ k ≤ 14 := by obtain ⟨P, h1, _⟩ := h.ex; exact h1.kb
theorem One.sb {w W : World} {F : Nat → Prop} {M k sz N : Nat} (h : One w W F M k sz N) : 8 ≤ sz ∧ sz ≤ 25000 := by obtain ⟨P, h1, _⟩ := h.ex; exact h1.sb
theorem One.nb {w W : World} {F : Nat → Prop} {M k sz N : Nat} (h : One w W F M k sz N) : N < 2 ^ (8 * sz) := by obtain ⟨P, h1, _⟩ := h.ex; exact h1.nb
theorem One.ch {w W W' : World} {F P : Nat → Prop} {M k sz N : Nat} (h : One w W F M k sz N) (hc : Ch P W W') (hp : ∀ b, P b → F b ∨ b < w.heap.size) : One w W' F M k sz N := by
  obtain ⟨Q, h1, h2⟩ := h.ex
  refine ⟨⟨Q, h1.ch hc fun b hb e => ?_, h2⟩, Nat.le_trans h.size hc.size, fun b hb => Nat.lt_of_lt_of_le (h.flt b hb) hc.size⟩
  have := h2 b hb
  rcases hp b e with q | q
  · exact this.2 q
  · omega
theorem One.keep {w W W' : World} {F : Nat → Prop} {M k sz N : Nat} (h : One w W F M k sz N) (hb : Below W.heap.size W W') : One w W' F M k sz N :=
  h.ch (P := fun _ => False) (Ch.of hb) fun b e => e.elim
theorem Nu.keep {w W W' : World} {F : Nat → Prop} (h : Below W.heap.size W W') : Nu w F W W' := Ch.of h
theorem Nu.trans {w W W1 W2 : World} {F : Nat → Prop} (h : Nu w F W W1) (h2 : Nu w F W1 W2) : Nu w F W W2 := Ch.trans h h2
theorem Nu.below {w W W' : World} {F : Nat → Prop} (h : Nu w F W W') (hb : Below w.heap.size w W) : Below w.heap.size w W' := hb.trans (Ch.below h hb.size fun i e => e.1)
theorem Nu.bs {w W W' : World} {F : Nat → Prop} {ao : Option Addr} {len cap : Nat} {zs : List Int} (h : Nu w F W W') (hz : Bs W ao len cap zs) (ho : 0 < len → ∀ x, ao = some x → x.block < w.heap.size ∨ F x.block) : Bs W' ao len cap zs :=
  hz.ch h fun h0 x hx e => by rcases ho h0 x hx with q | q; omega; exact e.2 q
/-- More of F. -/
theorem One.more {w W : World} {F G : Nat → Prop} {M k sz N : Nat} (h : One w W F M k sz N) (W' : World) (hb : Below W.heap.size W W') (hG : ∀ b, G b → F b ∨ (W.heap.size ≤ b ∧ b < W'.heap.size)) : One w W' G M k sz N := by
  obtain ⟨P, h1, h2⟩ := h.ex
  refine ⟨⟨P, h1.keep hb, fun b hb' => ⟨(h2 b hb').1, fun e => ?_⟩⟩, Nat.le_trans h.size hb.size, fun b e => ?_⟩
  · rcases hG b e with q | q
    · exact (h2 b hb').2 q
    · have := h1.lt b hb'; omega
  · rcases hG b e with q | q
    · exact Nat.lt_of_lt_of_le (h.flt b q) hb.size
    · exact q.2
theorem one_of {w W W' : World} {F P : Nat → Prop} {M k sz N : Nat} (hs : w.heap.size ≤ W.heap.size) (hf : ∀ b, F b → b < W.heap.size) (h2 : ∀ b, P b → w.heap.size ≤ b ∧ ¬ F b) (h : Fl W' M (fun b => P b ∨ (W.heap.size ≤ b ∧ b < W'.heap.size)) k sz N) (hc : Ch P W W') :
    One w W' F M k sz N ∧ Nu w F W W' := by
  refine ⟨⟨⟨_, h, fun b hb => ?_⟩, Nat.le_trans hs hc.size, fun b hb => Nat.lt_of_lt_of_le (hf b hb) hc.size⟩, hc.mono fun i _ e => h2 i e⟩
  rcases hb with q | q
  · exact h2 b q
  · exact ⟨by omega, fun e => by have := hf b e; omega⟩
theorem one_new (w W : World) (F : Nat → Prop) (n b : Nat) (hn : n ≤ 10000) (hb : 1 ≤ b ∧ b ≤ 20) (hs : w.heap.size ≤ W.heap.size) (hf : ∀ b, F b → b < W.heap.size) :
    Calls Try.prog 8 #[.int .i64 n, .int .i64 b] W fun e W' => ∃ M, e = .returned (.tuple #[.pointer (some ⟨M, 0, none⟩), .int .i64 0]) ∧ One w W' F M (kOf b) (sOf n b) 0 ∧ Below W.heap.size W W' ∧ W.heap.size ≤ M ∧ M < W'.heap.size := by
  refine (new_ok n b W hn hb).mono fun e W' h => ⟨_, h.1, ⟨⟨_, h.2.1, fun b hb => ⟨by omega, fun e => by have := hf b e; omega⟩⟩, Nat.le_trans hs h.2.2.size, fun b e => Nat.lt_of_lt_of_le (hf b e) h.2.2.size⟩, h.2.2, Nat.le_refl _, h.2.1.lt _ h.2.1.base⟩
/-- A key that was there, or that lies in memory of F. -/
def Key (w : World) (F : Nat → Prop) (ao : Option Addr) (len : Nat) : Prop := 0 < len → ∀ x, ao = some x → x.block < w.heap.size ∨ F x.block
theorem Key.out {w : World} {F P : Nat → Prop} {ao : Option Addr} {len : Nat} (h : Key w F ao len) (h2 : ∀ b, P b → w.heap.size ≤ b ∧ ¬ F b) : Out P ao len := fun h0 x hx e => by
  have := h2 _ e
  rcases h h0 x hx with q | q
  · omega
  · exact this.2 q
theorem key_of {w : World} {ao : Option Addr} {len cap : Nat} {zs : List Int} (h : Bs w ao len cap zs) (F : Nat → Prop) : Key w F ao len := fun h0 x hx => by
  obtain ⟨b, off, ho, hc⟩ := h.2.2.2 h0
  rw [hx] at ho
  cases ho
  exact .inl (World.block_lt_of_cell? w _ (hc 0 h0))
theorem one_add (w W : World) (F : Nat → Prop) (M k sz N : Nat) (h : One w W F M k sz N) (ao : Option Addr) (len cap : Nat) (zs : List Int) (hm : len ≤ 9223372036854775807) (hz : Bs W ao len cap zs) (hk : Key w F ao len) :
    Calls Try.prog 10 #[.pointer (some ⟨M, 0, none⟩), .slice ao len cap] W fun e W' => e = .returned (.tuple #[]) ∧ One w W' F M k sz (addk (fnv zs) sz k N) ∧ Nu w F W W' := by
  obtain ⟨P, h1, h2⟩ := h.ex
  exact (add_h W M P k sz N h1 ao len cap zs hm hz (hk.out h2)).mono fun e W' ⟨q1, q2, q3⟩ => ⟨q1, one_of h.size h.flt h2 q2 q3⟩
theorem one_has (w W : World) (F : Nat → Prop) (M k sz N : Nat) (h : One w W F M k sz N) (ao : Option Addr) (len cap : Nat) (zs : List Int) (hm : len ≤ 9223372036854775807) (hz : Bs W ao len cap zs) (hk : Key w F ao len) :
    Calls Try.prog 15 #[.pointer (some ⟨M, 0, none⟩), .slice ao len cap] W fun e W' => e = .returned (.bool (hask (fnv zs) sz k N)) ∧ One w W' F M k sz N ∧ Nu w F W W' := by
  obtain ⟨P, h1, h2⟩ := h.ex
  exact (has_h W M P k sz N h1 ao len cap zs hm hz (hk.out h2)).mono fun e W' ⟨q1, q2, q3⟩ => ⟨q1, one_of h.size h.flt h2 q2 (q3.mono fun i _ e => by rw [e]; exact h1.base)⟩
theorem one_ones (w W : World) (F : Nat → Prop) (M k sz N : Nat) (h : One w W F M k sz N) :
    Calls Try.prog 12 #[.pointer (some ⟨M, 0, none⟩)] W fun e W' => e = .returned (.int .i64 (pc (8 * sz) N : Nat)) ∧ One w W' F M k sz N ∧ Nu w F W W' := by
  obtain ⟨P, h1, h2⟩ := h.ex
  exact (ones_h W M P k sz N h1).mono fun e W' ⟨q1, q2, q3⟩ => ⟨q1, one_of h.size h.flt h2 q2 (q3.mono fun i _ e => by rw [e]; exact h1.base)⟩
theorem one_bytes (w W : World) (F : Nat → Prop) (M k sz N : Nat) (h : One w W F M k sz N) :
    Calls Try.prog 11 #[.pointer (some ⟨M, 0, none⟩)] W fun e W' => ∃ v, e = .returned v ∧ Own W' W.heap.size v (fb k sz N) ∧ One w W' F M k sz N ∧ Nu w F W W' ∧ ∃ D, Lf W' M D k sz N := by
  obtain ⟨P, h1, h2⟩ := h.ex
  exact (bytes_h W M P k sz N h1).mono fun e W' ⟨v, q1, q2, q3, q4, q5⟩ => ⟨v, q1, q2, (one_of h.size h.flt h2 q3 (q4.mono fun i _ e => by rw [e]; exact h1.base)).1, (one_of h.size h.flt h2 q3 (q4.mono fun i _ e => by rw [e]; exact h1.base)).2, q5⟩

/-- A key of one byte, a constant text's. -/
theorem conv_one (w : World) (z : Int) (hz : 0 ≤ z ∧ z < 256) :
    ∃ w', (convert 27 27 (.slice (some ⟨w.heap.size, 0, none⟩) 1 1)).run Try.prog (w.alloc (.cells #[.int .u8 z] 5)) = .ok (.slice (some ⟨w.heap.size, 0, none⟩) 1 1) w' ∧
      Hid (Below w.heap.size w w') ∧ Hid (Bs w' (some ⟨w.heap.size, 0, none⟩) 1 1 [z]) := by
  refine ⟨_, Go.Lib.run_convert_bytes_const (P := Try.prog) w 27 5 #[.int .u8 z] 1 1 Try.underlying27 Try.underlying5, hide ((Below.refl _ w).alloc (Nat.le_refl _) _), hide ?_⟩
  refine ⟨rfl, ⟨Nat.le_refl _, fun h => by cases h⟩, range_of (by intro y hy; simp only [List.mem_cons, List.not_mem_nil, or_false] at hy; omega), fun _ => ⟨w.heap.size, 0, rfl, fun i hi => ?_⟩⟩
  have hh := hpS w (.cells #[.int .u8 z] 5 (1, 2)) w.heap.size rfl
  match i, hi with
  | 0, _ => exact (show (w.alloc (.cells #[.int .u8 z] 5 (1, 2))).cell? ⟨w.heap.size, 0, none⟩ = some (.int .u8 z) by unfold World.cell?; rw [hh]; rfl)
theorem one_fresh {w W W2 : World} {F : Nat → Prop} {M k sz N : Nat} (h : One w W F M k sz N) (hb : Below W.heap.size W W2) : ∃ P : Nat → Prop, Fl W2 M P k sz N ∧ (∀ b, P b → w.heap.size ≤ b ∧ ¬ F b) ∧ ∀ b, W.heap.size ≤ b → ¬ P b := by
  obtain ⟨P, h1, h2⟩ := h.ex
  exact ⟨P, h1.keep hb, h2, fun b hb e => by have := h1.lt b e; omega⟩
/-- Keys that were made behind the Filter. -/
theorem one_add1 (w W W2 : World) (M k sz N : Nat) (F : Nat → Prop) (h : One w W F M k sz N) (hb : Below W.heap.size W W2) (ao : Option Addr) (len cap : Nat) (zs : List Int) (hm : len ≤ 9223372036854775807) (hz : Bs W2 ao len cap zs) (hk : 0 < len → ∀ x, ao = some x → W.heap.size ≤ x.block) :
    Calls Try.prog 10 #[.pointer (some ⟨M, 0, none⟩), .slice ao len cap] W2 fun e W' => e = .returned (.tuple #[]) ∧ One w W' F M k sz (addk (fnv zs) sz k N) ∧ Nu w F W W' := by
  obtain ⟨P, h1, h2, h3⟩ := one_fresh h hb
  refine (add_h _ M P k sz N h1 ao len cap zs hm hz (fun h0 x hx e => h3 _ (hk h0 x hx) e)).mono fun e W' ⟨q1, q2, q3⟩ => ⟨q1, ?_⟩
  have h' := h.keep hb
  have := one_of h'.size h'.flt h2 q2 q3
  exact ⟨this.1, (Nu.keep hb).trans this.2⟩
theorem one_has1 (w W W2 : World) (M k sz N : Nat) (F : Nat → Prop) (h : One w W F M k sz N) (hb : Below W.heap.size W W2) (ao : Option Addr) (len cap : Nat) (zs : List Int) (hm : len ≤ 9223372036854775807) (hz : Bs W2 ao len cap zs) (hk : 0 < len → ∀ x, ao = some x → W.heap.size ≤ x.block) :
    Calls Try.prog 15 #[.pointer (some ⟨M, 0, none⟩), .slice ao len cap] W2 fun e W' => e = .returned (.bool (hask (fnv zs) sz k N)) ∧ One w W' F M k sz N ∧ Nu w F W W' := by
  obtain ⟨P, h1, h2, h3⟩ := one_fresh h hb
  refine (has_h _ M P k sz N h1 ao len cap zs hm hz (fun h0 x hx e => h3 _ (hk h0 x hx) e)).mono fun e W' ⟨q1, q2, q3⟩ => ⟨q1, ?_⟩
  have h' := h.keep hb
  have := one_of h'.size h'.flt h2 q2 (q3.mono fun i _ e => by rw [e]; exact h1.base)
  exact ⟨this.1, (Nu.keep hb).trans this.2⟩
theorem fresh1 (W : World) : 0 < 1 → ∀ x, some (⟨W.heap.size, 0, none⟩ : Addr) = some x → W.heap.size ≤ x.block := fun _ x hx => by cases hx; exact Nat.le_refl _

set_option maxRecDepth 100000 in
set_option maxHeartbeats 1600000 in
theorem awake_any (w : World) : Calls Try.prog 9 #[] w fun e w' => e = .returned (.bool true) ∧ Below w.heap.size w w' := by
  have C1 := hide (one_new w w (fun _ => False) 10 10 (by decide) (by decide) (Nat.le_refl _) (fun b e => e.elim))
  rw [show kOf 10 = 7 from rfl, show sOf 10 10 = 13 from rfl] at C1
  have f1 : hask (fnv [120]) 13 7 0 = false := hask_zero _ _ _ (by decide)
  have f2 : hask (fnv [120]) 13 7 (addk (fnv [120]) 13 7 0) = true := hask_add _ _ _ _
  obtain ⟨p1, p2, p3⟩ := pc_addk (fnv [120]) 13 0 (by decide) 7
  have p4 := p3 f1
  rw [pc_zero] at p2 p4
  clear p1 p3
  have H1 := hide (fun W W2 M => fun h hb hz => one_has1 w W W2 M 7 13 0 (fun _ => False) h hb _ 1 1 [120] (by decide) hz (fresh1 W))
  have H2 := hide (fun W W2 M => fun h hb hz => one_add1 w W W2 M 7 13 0 (fun _ => False) h hb _ 1 1 [120] (by decide) hz (fresh1 W))
  have H3 := hide (fun W W2 M => fun h hb hz => one_has1 w W W2 M 7 13 (addk (fnv [120]) 13 7 0) (fun _ => False) h hb _ 1 1 [120] (by decide) hz (fresh1 W))
  have H4 := hide (fun W M => fun h => one_ones w W (fun _ => False) M 7 13 (addk (fnv [120]) 13 7 0) h)
  rw [f1] at H1
  rw [f2] at H3
  generalize addk (fnv [120]) 13 7 0 = N at *
  generalize pc (8 * 13) N = r at *
  clear f1 f2
  go_enter Try.func9, Try.ntmps9
  go_wp2_with fail
  refine C1.out.mono ?_
  rintro e w1 ⟨M, rfl, h1, b1, -, -⟩
  have O1 := hide h1
  have B1 := hide b1
  clear h1 b1 C1
  obtain ⟨v1, hcv, hvb, hvs⟩ := conv_one w1 120 (by decide)
  go_wp2_with fail
  clear hcv
  refine (H1.out w1 v1 M O1.out hvb.out hvs.out).mono ?_
  rintro e w2 ⟨rfl, h1, h2⟩
  have O2 := hide h1
  have B2 := hide (h2.below B1.out)
  clear h1 h2
  obtain ⟨v2, hcv, hvb, hvs⟩ := conv_one w2 120 (by decide)
  go_wp2_with fail
  clear hcv
  refine (H2.out w2 v2 M O2.out hvb.out hvs.out).mono ?_
  rintro e w3 ⟨rfl, h1, h2⟩
  have O3 := hide h1
  have B3 := hide (h2.below B2.out)
  clear h1 h2
  obtain ⟨v3, hcv, hvb, hvs⟩ := conv_one w3 120 (by decide)
  go_wp2_with fail
  clear hcv
  refine (H3.out w3 v3 M O3.out hvb.out hvs.out).mono ?_
  rintro e w4 ⟨rfl, h1, h2⟩
  have O4 := hide h1
  have B4 := hide (h2.below B3.out)
  clear h1 h2
  go_wp2_with fail
  refine (H4.out w4 M O4.out).mono ?_
  rintro e w5 ⟨rfl, h1, h2⟩
  have O5 := hide h1
  have B5 := hide (h2.below B4.out)
  clear h1 h2
  go_wp2_with fail
  refine (H4.out w5 M O5.out).mono ?_
  rintro e w6 ⟨rfl, h1, h2⟩
  have B6 := hide (h2.below B5.out)
  clear h1 h2
  go_wp2
  go_ret
  refine ⟨ret_eq ?_, B6.out⟩
  show Value.bool (decide ((r : Int) ≤ 7)) = .bool true
  rw [decide_eq_true (by omega)]

end Go.Proofs.Ytjphnflahpcaiaa.Clep
