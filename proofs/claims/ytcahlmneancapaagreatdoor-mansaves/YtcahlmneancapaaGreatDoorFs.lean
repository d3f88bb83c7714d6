/- A variable that holds a View, beside a Disk and its Manifest; what a statement holds that Saves, Rewrites, loses power and Opens. Conditions: those of the calls. -/
import Derived.Test.YtcahlmneancapaaGreatDoorFv28
import Derived.Test.YtcahlmneancapaaGreatDoorFv23
import Derived.Test.YtcahlmneancapaaGreatDoorFv29
import Derived.Test.YtcahlmneancapaaGreatDoorFv13
import Derived.Test.YtcahlmneancapaaGreatDoorFv20
import Derived.Test.YtcahlmneancapaaGreatDoorFv27
import Derived.Test.YtcahlmneancapaaGreatDoorFv14
import Derived.Test.YtcahlmneancapaaGreatDoorFv02
import Derived.BigRegion
import Derived.Deep.CutRange
import Derived.Deep.RegionWith
namespace Go.Proofs.YtcahlmneancapaaGreatDoor.Clep
open Go.RowKit Go.Maps Go.Sort
set_option linter.unusedVariables false
set_option maxRecDepth 10000

def gvcs (a : Option Addr) (c : Nat) (V : Vw) : Array Value := #[.int .i64 V.lg, .slice a V.f.length c, .int .u64 V.fl, .int .u64 V.ct, .int .u64 V.at9, .int .u64 V.ls]
/-- The variable in block B holds V; what it leads to is kept. -/
structure Vh (K : Nat → Prop) (W : World) (B : Nat) (V : Vw) : Prop where
  ex : ∃ a c, Ek W B (gvcs a c V) 31 ∧ Fs W a V.f.length c V.f ∧ c ≤ 9223372036854775807 ∧ (0 < V.f.length → ∀ x, a = some x → K x.block ∧ x.block ≠ B)
  own : K B
theorem fs_keep {K : Nat → Prop} {w w' : World} {a : Option Addr} {n c : Nat} {l : List Fi} (h : Fs w a n c l) (hb : ∀ b, K b → w'.heap[b]? = w.heap[b]?) (hK : 0 < n → ∀ x, a = some x → K x.block) : Fs w' a n c l := by
  refine ⟨h.1, h.2.1, h.2.2.1, fun h0 => ?_⟩
  obtain ⟨b, off, e, hc⟩ := h.2.2.2 h0
  refine ⟨b, off, e, fun i f hi => ?_⟩
  have h2 := hb b (hK h0 _ e)
  obtain ⟨c1, c2⟩ := hc i f hi
  exact ⟨(World.cell?_of_block h2).trans c1, (World.cell?_of_block h2).trans c2⟩
theorem Vh.same {K : Nat → Prop} {w w' : World} {B : Nat} {V : Vw} (h : Vh K w B V) (hs : Same K w w') : Vh K w' B V := by
  obtain ⟨a, c, h1, h2, h3, h4⟩ := h.ex
  exact ⟨⟨a, c, h1.same hs h.own, fs_keep h2 (fun b hb => hs.block b hb) (fun h0 x hx => (h4 h0 x hx).1), h3, h4⟩, h.own⟩
theorem Vh.mono {K G : Nat → Prop} {w : World} {B : Nat} {V : Vw} (h : Vh K w B V) (hg : ∀ i, K i → G i) : Vh G w B V := by
  obtain ⟨a, c, h1, h2, h3, h4⟩ := h.ex
  exact ⟨⟨a, c, h1, h2, h3, fun h0 x hx => ⟨hg _ (h4 h0 x hx).1, (h4 h0 x hx).2⟩⟩, hg _ h.own⟩
theorem Vh.cell {K : Nat → Prop} {w : World} {B : Nat} {V : Vw} (h : Vh K w B V) : ∃ a c, Fs w a V.f.length c V.f ∧ c ≤ 9223372036854775807 ∧ ∀ (o : Nat) (u : Value), (gvcs a c V)[o]? = some u → w.cell? ⟨B, o, none⟩ = some u := by
  obtain ⟨a, c, h1, h2, h3, h4⟩ := h.ex
  exact ⟨a, c, h2, h3, fun o u hu => h1.cell hu⟩
/-- A View's block is written: the Manifest is as it was. -/
theorem Km.six {K : Nat → Prop} {w w' : World} {M R n c B : Nat} {V U : Vw} {br : Bool} {S : St} {a0 : Option Addr} {c0 : Nat} (h : Km K w M R n c V br S) (hB : K B) (hz : Ek w B (gvcs a0 c0 U) 31) (hc : Ch (· = B) w w') : Km K w' M R n c V br S := by
  obtain ⟨F, m, hF⟩ := h.ma
  have hne : M ≠ B := fun e => h.low (e ▸ hB)
  obtain ⟨a, fc, h1, h2, h3, h4⟩ := m.blk
  have hh := (m.held.ch (hc.mono (Q := F) (fun i _ hi => by subst hi; exact hF _ hB))).thin (G := F) (fun i hi => .inl hi)
  refine ⟨⟨F, ⟨⟨a, fc, h1.ch hc (fun e => hne e), ?_, h3, h4⟩, hh, m.own⟩, hF⟩, h.low⟩
  refine ⟨h2.1, h2.2.1, h2.2.2.1, fun h0 => ?_⟩
  obtain ⟨b, off, e, hcl⟩ := h2.2.2.2 h0
  have hbB : b ≠ B := by
    rintro rfl
    obtain ⟨f, hf⟩ : ∃ f, V.f[0]? = some f := ⟨_, List.getElem?_eq_getElem (by omega)⟩
    obtain ⟨c1, c2⟩ := hcl 0 f hf
    have hcell : ∀ o, w.cell? ⟨b, o, none⟩ = (gvcs a0 c0 U)[o]? := fun o => by simp [World.cell?, show w.heap[b]? = _ from hz]
    rw [hcell] at c1 c2
    unfold gvcs at c1 c2
    match off with
    | 0 => simp at c2
    | 1 => simp at c1
    | 2 => simp at c1
    | 3 => simp at c1
    | 4 => simp at c1
    | 5 => simp at c1
    | k + 6 => simp at c1
  refine ⟨b, off, e, fun i f hi => ?_⟩
  obtain ⟨c1, c2⟩ := hcl i f hi
  have hb := hc.block b (World.block_lt_of_cell? w _ c1) hbB
  exact ⟨(World.cell?_of_block hb).trans c1, (World.cell?_of_block hb).trans c2⟩
/-- The View that the variable holds is another one now. -/
theorem Vh.put {K : Nat → Prop} {w : World} {B : Nat} {V U : Vw} {a : Option Addr} {c : Nat} (h : Vh K w B V) (hf : Fs w a U.f.length c U.f) (hc : c ≤ 9223372036854775807) (ha : 0 < U.f.length → ∀ x, a = some x → K x.block ∧ x.block ≠ B) :
    Vh K (set6 w B (.int .i64 U.lg) (.slice a U.f.length c) (.int .u64 U.fl) (.int .u64 U.ct) (.int .u64 U.at9) (.int .u64 U.ls)) B U := by
  obtain ⟨a0, c0, h1, -, -, -⟩ := h.ex
  refine ⟨⟨a, c, ?_, ?_, hc, ha⟩, h.own⟩
  · unfold gvcs at h1
    exact (((((h1.set 0 _).set 1 _).set 2 _).set 3 _).set 4 _).set 5 _
  · refine ⟨hf.1, hf.2.1, hf.2.2.1, fun h0 => ?_⟩
    obtain ⟨b, off, e, hcl⟩ := hf.2.2.2 h0
    have hne := (ha h0 _ e).2
    refine ⟨b, off, e, fun i f hi => ?_⟩
    obtain ⟨c1, c2⟩ := hcl i f hi
    have hb := (gset6 w B (.int .i64 U.lg) (.slice a U.f.length c) (.int .u64 U.fl) (.int .u64 U.ct) (.int .u64 U.at9) (.int .u64 U.ls)).block b (World.block_lt_of_cell? w _ c1) (by intro h; injection h with h; exact hne h)
    exact ⟨(World.cell?_of_block (w := w) (a := ⟨b, off + i * 2, none⟩) hb).trans c1, (World.cell?_of_block (w := w) (a := ⟨b, off + i * 2 + 1, none⟩) hb).trans c2⟩
theorem ch_set6 (w : World) (B : Nat) (u0 u1 u2 u3 u4 u5 : Value) : Ch (· = B) w (set6 w B u0 u1 u2 u3 u4 u5) := by
  have s : ∀ (W : World) (o : Nat) (u : Value), Ch (fun i => i = B) W (W.setCell ⟨B, o, none⟩ u) := fun W o u => Ch.set W ⟨B, o, none⟩ u rfl
  unfold set6
  exact (((((s w 0 u0).trans (s _ 1 u1)).trans (s _ 2 u2)).trans (s _ 3 u3)).trans (s _ 4 u4)).trans (s _ 5 u5)

/-- The Disk, its Manifest and a variable that holds the same View. -/
structure SvM (w W : World) (B M R n : Nat) (l : List Ed) (V : Vw) (S : St) : Prop where
  ex : ∃ K, (∀ i, i < w.heap.size → K i) ∧ Km K W M R n l.length V false S ∧ Vh K W B V
  new : w.heap.size ≤ B
  bel : Below w.heap.size w W
theorem SvM.below {w W W' : World} {B M R n : Nat} {l : List Ed} {V : Vw} {S : St} (h : SvM w W B M R n l V S) (hb : Below W.heap.size W W') : SvM w W' B M R n l V S := by
  obtain ⟨K, h1, h2, h3⟩ := h.ex
  exact ⟨⟨K, h1, h2.below hb, h3.same (h2.same hb)⟩, h.new, h.bel.trans (hb.mono h.bel.size)⟩
/-- How far the Disk is used: behind i Edits; r: a renewal in this round. -/
structure SvB (S : St) (T n : Nat) (l : List Ed) (V : Vw) (i r tm : Nat) : Prop where
  mp : Mp S T n l (el l).length V
  calm : Calm S
  q : S.q = 1048576
  tot : tot S ≤ 3000 + 2646 * i + tm + 1334 * r
  t : T ≤ i + 1 + r
  len : l.length ≤ i + 2
  one : r = 0 ∨ (r = 1 ∧ l.length ≤ 30)
  calls : S.calls ≤ 1000 + 400 * i + 100 * (r + tm)

end Go.Proofs.YtcahlmneancapaaGreatDoor.Clep

/- A statement that Saves, Rewrites, loses power and Opens, beside a variable that holds the View: what each call leaves. Conditions: those of the calls, up to 45 Edits. -/
namespace Go.Proofs.YtcahlmneancapaaGreatDoor.Clep
open Go.RowKit Go.Maps Go.Sort
set_option linter.unusedVariables false
set_option maxRecDepth 10000

theorem vok_wfS {V : Vw} (h : vok V = true) : ∀ x ∈ V.f, x.wf := fun x hx => by
  have := List.all_eq_true.1 (vok_parts2 h).2.1 x hx
  unfold Fi.ok at this
  have h9 := of_decide_eq_true this
  unfold Fi.wf
  omega
theorem vok_40S {V : Vw} (h : vok V = true) : V.f.length ≤ 40 := by
  have h1 := (vok_parts2 h).1
  unfold vwH at h1
  have h2 := of_decide_eq_true h1
  omega
/-- The Disk, its Manifest and a variable that holds the same View; how far the Disk is used. -/
structure SvL (w W : World) (B M R n T : Nat) (l : List Ed) (V : Vw) (S : St) (i tb ub cb : Nat) : Prop where
  km : ∃ K : Nat → Prop, (∀ j, j < w.heap.size → K j) ∧ Km K W M R n l.length V false S ∧ Vh K W B V
  new : w.heap.size ≤ B
  bel : Below w.heap.size w W
  mp : Mp S T n l (el l).length V
  calm : Calm S
  q : S.q = 1048576
  use : ∃ r, tot S ≤ tb + 1334 * r ∧ T ≤ ub + r ∧ (r = 0 ∨ (r = 1 ∧ l.length + 29 ≤ i))
  len : l.length ≤ i + 1
  calls : S.calls ≤ cb
/-- Its Disk alone. -/
structure SvD (w W : World) (B R n T : Nat) (l : List Ed) (V : Vw) (S : St) (i tb ub cb : Nat) : Prop where
  kd : ∃ K : Nat → Prop, (∀ j, j < w.heap.size → K j) ∧ Kd K W R S ∧ Vh K W B V
  new : w.heap.size ≤ B
  bel : Below w.heap.size w W
  mp : Mp S T n l (el l).length V
  calm : Calm S
  q : S.q = 1048576
  use : ∃ r, tot S ≤ tb + 1334 * r ∧ T ≤ ub + r ∧ (r = 0 ∨ (r = 1 ∧ l.length + 29 ≤ i))
  len : l.length ≤ i + 1
  calls : S.calls ≤ cb
theorem SvL.d {w W : World} {B M R n T : Nat} {l : List Ed} {V : Vw} {S : St} {i tb ub cb : Nat} (h : SvL w W B M R n T l V S i tb ub cb) : SvD w W B R n T l V S i tb ub cb := by
  obtain ⟨K, h1, h2, h3⟩ := h.km
  exact ⟨⟨K, h1, h2.kd, h3⟩, h.new, h.bel, h.mp, h.calm, h.q, h.use, h.len, h.calls⟩
theorem SvL.below {w W W' : World} {B M R n T : Nat} {l : List Ed} {V : Vw} {S : St} {i tb ub cb : Nat} (h : SvL w W B M R n T l V S i tb ub cb) (hb : Below W.heap.size W W') : SvL w W' B M R n T l V S i tb ub cb := by
  obtain ⟨K, h1, h2, h3⟩ := h.km
  exact ⟨⟨K, h1, h2.below hb, h3.same (h2.same hb)⟩, h.new, h.bel.trans (hb.mono h.bel.size), h.mp, h.calm, h.q, h.use, h.len, h.calls⟩
theorem SvL.mono {w W : World} {B M R n T : Nat} {l : List Ed} {V : Vw} {S : St} {i tb ub cb i' tb' ub' cb' : Nat} (h : SvL w W B M R n T l V S i tb ub cb) (h0 : i ≤ i') (h1 : tb ≤ tb') (h2 : ub ≤ ub') (h3 : cb ≤ cb') : SvL w W B M R n T l V S i' tb' ub' cb' := by
  obtain ⟨r, u1, u2, u3⟩ := h.use
  exact ⟨h.km, h.new, h.bel, h.mp, h.calm, h.q, ⟨r, by omega, by omega, by omega⟩, by have := h.len; omega, by have := h.calls; omega⟩
/-- A Save that is refused. -/
theorem svl_refused {w W : World} {B M R n T : Nat} {l : List Ed} {V : Vw} {S : St} {i tb ub cb : Nat} (h : SvL w W B M R n T l V S i tb ub cb) (da aa : Option Addr) (dn dc an ac : Nat) (E : Ed) (hzd : Zs W da dn dc E.d) (hfa : Fs W aa an ac E.a) (hdn : dn ≤ 60) (han : an ≤ 60)
    (hu : 0 ≤ E.fl ∧ 0 ≤ E.ct ∧ 0 ≤ E.at9 ∧ 0 ≤ E.ls) (hi : i ≤ 45) (hcb : cb ≤ 100000) (hb : emay E ≠ 0 ∨ appl V E = none) :
    Calls Tryz.prog 11 #[.pointer (some ⟨M, 0, none⟩), edV da dn dc aa an ac E] W fun e w' => e = .returned (.int .i64 1) ∧ SvL w w' B M R n T l V S i tb ub cb := by
  obtain ⟨K, h1, h2, h3⟩ := h.km
  have hn := h.mp.n100
  have hl := h.len
  have hc := h.calls
  refine (km_save h2 da aa dn dc an ac E hzd hfa hdn han hu h.mp.vok hn.1 hn.2 (by omega) (by omega)).mono ?_
  rintro e w' ⟨s, q1, -⟩
  obtain ⟨rfl, k⟩ := q1 hb
  exact ⟨rfl, ⟨K, h1, k, h3.same s⟩, h.new, h.bel.trans (s.below (B := w.heap.size) h1), h.mp, h.calm, h.q, h.use, h.len, h.calls⟩
/-- A Save; then the variable takes what the Edit makes of its View. -/
theorem svl_saved {w W1 W2 : World} {B M R n T : Nat} {l : List Ed} {V U : Vw} {S : St} {i tb ub cb p c : Nat} {a : Option Addr} (h : SvL w W1 B M R n T l V S i tb ub cb) (hb : Below W1.heap.size W1 W2)
    (hp : Ek W2 p (gvcs a c U) 31) (hpn : W1.heap.size ≤ p) (hf : Fs W2 a U.f.length c U.f) (hc : c ≤ 9223372036854775807) (ha : 0 < U.f.length → ∀ x, a = some x → W1.heap.size ≤ x.block ∧ x.block < W2.heap.size)
    (da aa : Option Addr) (dn dc an ac : Nat) (E : Ed) (hzd : Zs W2 da dn dc E.d) (hfa : Fs W2 aa an ac E.a) (hdn : dn ≤ 60) (han : an ≤ 60) (hE : Eg E) (hap : appl V E = some U) (hi : i ≤ 45) (htb : tb ≤ 200000) (hcb : cb ≤ 100000) :
    Calls Tryz.prog 11 #[.pointer (some ⟨M, 0, none⟩), edV da dn dc aa an ac E] W2 fun e w' => e = .returned (.int .i64 0) ∧ ∃ a0 c0 S', Ek w' p (gvcs a c U) 31 ∧ Ek w' B (gvcs a0 c0 V) 31 ∧
      SvL w (set6 w' B (.int .i64 U.lg) (.slice a U.f.length c) (.int .u64 U.fl) (.int .u64 U.ct) (.int .u64 U.at9) (.int .u64 U.ls)) B M R n T (l ++ [E]) U S' (i + 1) (tb + 1312) ub (cb + 2) := by
  obtain ⟨K, h1, h2, h3⟩ := h.km
  obtain ⟨r, u1, u2, u3⟩ := h.use
  have hn := h.mp.n100
  have hl := h.len
  have hcl := h.calls
  have hq := h.q
  obtain ⟨S', sv, hcm, hc2, ht2, hq2, -, hmp⟩ := mp_save_calm h.mp h.calm hE hap (by omega) (by omega)
  have k2 := h2.wide hb
  have hs1 := h2.same hb
  have v2 := (h3.same hs1).mono (G := fun j => K j ∨ (W1.heap.size ≤ j ∧ j < W2.heap.size)) (fun j hj => Or.inl hj)
  have hlt : B < W1.heap.size := h2.lt h3.own
  refine (km_save k2 da aa dn dc an ac E hzd hfa hdn han hE.2 h.mp.vok hn.1 hn.2 (by omega) (by omega)).mono ?_
  rintro e w' ⟨s, -, q2⟩
  obtain ⟨E1, ph, S2, r1, rfl, k⟩ := q2 U hE.1 hap
  rw [sv] at r1
  injection r1 with x1 x2
  injection x2 with x2 x3
  subst x1 x2 x3
  rw [if_neg (by decide), if_neg (by decide)] at k
  have v3 := v2.same s
  obtain ⟨a0, c0, hz, -⟩ := v3.ex
  have hch := ch_set6 w' B (.int .i64 U.lg) (.slice a U.f.length c) (.int .u64 U.fl) (.int .u64 U.ct) (.int .u64 U.at9) (.int .u64 U.ls)
  have k3 := Km.six k v3.own hz hch
  have hb2 : Below w.heap.size w w' := (h.bel.trans (hb.mono h.bel.size)).trans (s.below (B := w.heap.size) (fun j hj => Or.inl (h1 j hj)))
  refine ⟨rfl, a0, c0, S', hp.same s (Or.inr ⟨hpn, hp.lt⟩), hz, ⟨⟨(fun j => K j ∨ (W1.heap.size ≤ j ∧ j < W2.heap.size)), fun j hj => Or.inl (h1 j hj), ?_, ?_⟩, h.new, ?_, hmp, hcm, hq2.trans h.q, ⟨r, by omega, by omega, ?_⟩, ?_, by omega⟩⟩
  · rw [List.length_append]; simpa using k3
  · exact v3.put (fs_keep hf (fun b hb => s.block b hb) (fun h0 x hx => Or.inr (ha h0 x hx))) hc (fun h0 x hx => ⟨Or.inr (ha h0 x hx), by have := (ha h0 x hx).1; omega⟩)
  · exact hb2.trans (hch.below hb2.size (fun j hj => by subst hj; exact h.new))
  · rw [List.length_append]
    rcases u3 with u | ⟨u, v⟩
    · exact .inl u
    · exact .inr ⟨u, by simp only [List.length_cons, List.length_nil]; omega⟩
  · rw [List.length_append]; simp only [List.length_cons, List.length_nil]; omega
/-- A Rewrite. -/
theorem svl_rewrite {w W : World} {B M R n T : Nat} {l : List Ed} {V : Vw} {S : St} {i tb ub cb : Nat} (h : SvL w W B M R n T l V S i tb ub cb) (hi : i ≤ 45) (htb : tb ≤ 200000) (hub : ub ≤ 50) (hcb : cb ≤ 100000) :
    Calls Tryz.prog 28 #[.pointer (some ⟨M, 0, none⟩)] W fun e w' => e = .returned (.int .i64 0) ∧ ∃ n' T' l' S', SvL w w' B M R n' T' l' V S' i (tb + 1334) (ub + 1) (cb + 100) := by
  obtain ⟨K, h1, h2, h3⟩ := h.km
  obtain ⟨r, u1, u2, u3⟩ := h.use
  have hl := h.len
  have hcl := h.calls
  have hq := h.q
  have hp := h.mp.pos
  obtain ⟨S', rn, hn2, hcm, hc2, ht2, hq2, hmp, -⟩ := mp_renew_calm h.mp h.calm (by omega) (by omega) (by omega)
  refine (km_rewrite h2 h.mp.dk h.mp.solo h.mp.top h.mp.vok h.mp.nn h.calm.2.2 (by omega) (by omega) (by omega) (by omega)).mono ?_
  rintro e w' ⟨E, ph, S2, r1, rfl, k, s⟩
  rw [rn] at r1
  injection r1 with x1 x2
  injection x2 with x2 x3
  subst x1 x2 x3
  rw [if_neg (by decide), if_neg (by decide), hn2] at k
  refine ⟨rfl, T + 1, T + 1, [wholeE V], S', ⟨K, h1, k, h3.same s⟩, h.new, h.bel.trans (s.below (B := w.heap.size) h1), hmp, hcm, hq2.trans h.q, ⟨r, by omega, by omega, ?_⟩, ?_, by omega⟩
  · rcases u3 with u | ⟨u, v⟩
    · exact .inl u
    · exact .inr ⟨u, by simp only [List.length_cons, List.length_nil]; omega⟩
  · simp only [List.length_cons, List.length_nil]; omega
theorem numv_keepS {w W : World} {K : Nat → Prop} {v : Value} {ks : List Int} (h : NumV (fun k => k < w.heap.size) w v ks) (hb : Below w.heap.size w W) (hK : ∀ i, i < w.heap.size → K i) : NumV K W v ks := by
  obtain ⟨ao, cap, h1, h2, h3, h4, h5⟩ := h
  refine ⟨ao, cap, h1, h2, h3, h4, fun h0 => ?_⟩
  obtain ⟨b, off, e, q, hc⟩ := h5 h0
  exact ⟨b, off, e, hK b q, fun i hi => (hb.cell (p := ⟨b, off + i, none⟩) q).trans (hc i hi)⟩
/-- A loss of power: it loses nothing. -/
theorem svl_crash {w W : World} {B M R n T : Nat} {l : List Ed} {V : Vw} {S : St} {i tb ub cb : Nat} (h : SvL w W B M R n T l V S i tb ub cb) (ao : Option Addr) (len cap : Nat) (ks : List Int) (hk : NumV (fun k => k < w.heap.size) w (.slice ao len cap) ks) (hcb : cb ≤ 100000) :
    Calls Tryz.prog 29 #[.pointer (some ⟨R, 0, none⟩), .slice ao len cap] W fun e w' => e = .returned (.tuple #[]) ∧ ∃ T' S', SvD w w' B R n T' l V S' i tb ub cb := by
  obtain ⟨K, h1, h2, h3⟩ := h.km
  obtain ⟨r, u1, u2, u3⟩ := h.use
  have hcl := h.calls
  obtain ⟨T', hT, hmp, hcm, hc2, hq2, ht2⟩ := mp_crash_calm h.mp ks
  refine (kd_crash ao len cap ks h2.kd (by omega) (numv_keepS hk h.bel h1)).mono ?_
  rintro e w' ⟨rfl, k, s⟩
  exact ⟨rfl, T', _, ⟨K, h1, k, h3.same s⟩, h.new, h.bel.trans (s.below (B := w.heap.size) h1), hmp, hcm, hq2.trans h.q, ⟨r, by omega, by omega, u3⟩, h.len, by omega⟩
/-- An Open. -/
theorem svd_open {w W : World} {B R n T : Nat} {l : List Ed} {V : Vw} {S : St} {i tb ub cb : Nat} (h : SvD w W B R n T l V S i tb ub cb) (hi : i ≤ 45) (htb : tb ≤ 200000) (hub : ub ≤ 50) (hcb : cb ≤ 100000) :
    Calls Tryz.prog 12 #[.pointer (some ⟨R, 0, none⟩)] W fun e w' => ∃ M n' T' l' S', e = .returned (.tuple #[.pointer (some ⟨M, 0, none⟩), .int .i64 0]) ∧ SvL w w' B M R n' T' l' V S' i tb ub (cb + 100) := by
  obtain ⟨K, h1, h2, h3⟩ := h.kd
  obtain ⟨r, u1, u2, u3⟩ := h.use
  have hl := h.len
  have hcl := h.calls
  have hq := h.q
  refine (kd_open_calm h2 h.mp h.calm (by omega) (by omega) (by omega) (by omega)).mono ?_
  rintro e w' ⟨M, S', n', T', l', rfl, k, s, -, hmp, hcm, hq2, hc2, h30, hr⟩
  refine ⟨M, n', T', l', S', rfl, ⟨K, h1, k, h3.same s⟩, h.new, h.bel.trans (s.below (B := w.heap.size) h1), hmp, hcm, hq2.trans h.q, ?_, ?_, by omega⟩
  · rcases hr with ⟨_, rfl, rfl, rfl, rfl⟩ | ⟨h31, rfl, rfl, h1l, ht, -⟩
    · exact ⟨r, u1, u2, u3⟩
    · exact ⟨1, by omega, by omega, .inr ⟨rfl, by omega⟩⟩
  · rcases hr with ⟨_, rfl, rfl, rfl, rfl⟩ | ⟨h31, rfl, rfl, h1l, ht, -⟩
    · exact hl
    · omega

end Go.Proofs.YtcahlmneancapaaGreatDoor.Clep

/- The statement ManSaves: it answers true (a walk over the translated program). No conditions. Written by wip/tools/gen16saves.py. -/
namespace Go.Proofs.YtcahlmneancapaaGreatDoor.Clep
open Go.RowKit Go.Maps Go.Sort
set_option linter.unusedVariables false
set_option maxRecDepth 10000

set_option maxHeartbeats 16000000 in
theorem mansaves_any (a0 : Option Addr) (len0 cap0 : Nat) (ls : List Er) (wh0 : Int) (a2 : Option Addr) (len2 cap2 : Nat) (ks : List Int) (w : World)
    (h0 : Es w a0 len0 cap0 ls) (hl0 : len0 ≤ 9223372036854775807) (hk : NumV (fun k => k < w.heap.size) w (.slice a2 len2 cap2) ks) :
    Calls Tryz.prog 6 #[.slice a0 len0 cap0, .int .i64 wh0, .slice a2 len2 cap2] w fun e w' => e = .returned (.bool true) ∧ Below w.heap.size w w' := by
  obtain ⟨S1, N1⟩ := newOk_one 1048576 (by decide)
  have P1 := mp_new N1 vok_one one_nn
  have HN1 := hide N1
  have HP1 := hide P1
  have ND := hide (kd_new 1048576 w (by decide) 1048576 rfl)
  have HE := hide (fun W (hW : Below w.heap.size w W) => h0.below hW (Nat.le_refl _))
  have HK := hide hk
  have AW := hide (fun W => mawake_any W)
  have hl2 : len2 = ks.length := by obtain ⟨ao, cap, e, -⟩ := hk; injection e
  subst hl2
  clear N1 P1 h0 hk
  go_enter Tryz.func6, Tryz.ntmps6
  go_wp2_with fail
  refine ND.out.mono ?_
  rintro e w1 ⟨R, rfl, D1, s1⟩
  have NM := hide (km_new none 0 0 oneV D1 (fs_nil w1) (by decide) vok_one one_nn HN1.out)
  have b1 := hide (s1.below (B := w.heap.size) (fun j hj => hj))
  unfold vwV oneV at NM
  clear ND D1 s1
  go_wp2_with fail
  refine NM.out.mono ?_
  rintro e w2 ⟨M, rfl, k2, s2, -⟩
  have b2 := hide (b1.out.trans (s2.below (B := w.heap.size) (fun j hj => hj)))
  clear NM s2
  by_cases h50 : (50 : Int) < (ks.length : Int)
  · clear k2
    go_wp2_with fail
    refine (AW.out w2).mono ?_
    rintro e w3 ⟨rfl, hb3⟩
    have b3 := hide (b2.out.trans (hb3.mono b2.out.size))
    clear hb3 AW
    go_wp2
    go_ret
    exact ⟨rfl, b3.out⟩
  · have K2 := hide k2
    clear k2
    go_wp2_with fail
    refine (AW.out w2).mono ?_
    rintro e w3 ⟨rfl, hb3⟩
    have K3 := hide (K2.out.below hb3)
    have b3 := hide (b2.out.trans (hb3.mono b2.out.size))
    clear hb3 AW K2 b2 b1
    go_wp2_with fail
    generalize hB : w3.heap.size = B
    generalize hwa : w3.alloc (Obj.cells #[.int .i64 1, .slice none 0 0, .int .u64 0, .int .u64 0, .int .u64 0, .int .u64 0] 31) = wa
    have S0 := hide (show SvL w wa B M R 1 1 [wholeE oneV] oneV S1 0 (3000 + 2646 * 0) (0 + 1) (1000 + 400 * 0) from by
      subst hB hwa
      have hb : Below w3.heap.size w3 (w3.alloc (Obj.cells #[.int .i64 1, .slice none 0 0, .int .u64 0, .int .u64 0, .int .u64 0, .int .u64 0] 31)) := (Below.refl _ w3).alloc (Nat.le_refl _) _
      have h1 := one_len
      have h2 := leB_len 1
      have ht := HN1.out.tot
      have hcl := HN1.out.calls
      exact ⟨⟨_, fun j hj => Or.inl hj, K3.out.more _, ⟨⟨none, 0, ek_new w3 _ _, fs_nil _, by decide, fun h0 => absurd h0 (by decide)⟩, Or.inr rfl⟩⟩, b3.out.size, b3.out.trans (hb.mono b3.out.size), HP1.out, HN1.out.calm, HN1.out.q, ⟨0, by omega, by omega, .inl rfl⟩, by decide, by omega⟩)
    clear hB hwa HN1 HP1 K3 b3
    go_loopw [8, 11] (fun s8 s11 wr => ∃ (i M n T : Nat) (l : List Ed) (V : Vw) (S : St), i ≤ 45 ∧ s8 = .pointer (some ⟨M, 0, none⟩) ∧ s11 = .int .i64 (i : Nat) ∧ Hid (SvL w wr B M R n T l V S i (3000 + 2646 * i) (i + 1) (1000 + 400 * i))) (fun _ t _ => 45 - (intOf t).toNat)
    case atStart => exact ⟨0, M, 1, 1, _, oneV, S1, by omega, rfl, rfl, S0⟩
    case round =>
      obtain ⟨i, M, n, T, l, V, S, hi, rfl, rfl, hst⟩ := hrel
      clear S0
      obtain ⟨wr', hwr⟩ : ∃ x, x = wr := ⟨_, rfl⟩
      subst hwr
      go_upto_region 7 with fail
      go_cut [55] from 48 to 150 (fun s55 wx => s55 = .bool (decide (i < len0 ∧ i < 45)) ∧ wr' = wx)
      case first =>
        clear hst HE
        by_cases hlt : i < len0
        · have q1 : (i : Int) < (len0 : Int) := by omega
          by_cases hl2 : i < 45
          · have q2 : (i : Int) < 45 := by omega
            go_wp2_with fail
            go_meet
            case rel => exact ⟨by simp [hlt, hl2], rfl⟩
          · have q2 : ¬ (i : Int) < 45 := by omega
            go_wp2_with fail
            go_meet
            case rel => exact ⟨by simp [hl2], rfl⟩
        · have q1 : ¬ ((i : Int) < (len0 : Int)) := by omega
          go_wp2_with fail
          go_meet
          case rel => exact ⟨by simp [hlt], rfl⟩
      case rest =>
        obtain ⟨rfl, hwc⟩ := hcut
        obtain ⟨wr, hwr⟩ : ∃ x, x = wr' := ⟨_, rfl⟩
        subst hwr
        subst hwc
        obtain ⟨q, hq⟩ : ∃ q, decide (i < len0 ∧ i < 45) = q := ⟨_, rfl⟩
        rw [hq]
        have hvok := hst.out.mp.vok
        cases q with
        | true =>
          obtain ⟨hl1, hl2⟩ := of_decide_eq_true hq
          obtain ⟨y, b, off, hy, rfl, hyo, c0, c1, c2, c3, c4, c5, c6⟩ := es_at (HE.out wr hst.out.bel) i hl1
          have HYO := hide hyo
          have hdn := hyo.1.2
          have han := hyo.2.1.2
          have q1 : (i : Int) < (len0 : Int) := by omega
          obtain ⟨K, hK, hkm, hvh⟩ := hst.out.km
          obtain ⟨av, cv, hek, hfv, hcv, -⟩ := hvh.ex
          obtain ⟨NV, hNV⟩ : ∃ n, V.f.length = n := ⟨_, rfl⟩
          have hnv40 : NV ≤ 40 := by have := vok_40S hvok; omega
          unfold gvcs at hek
          rw [hNV] at hek hfv
          have HNV := hide hNV
          have HEK := hide hek
          have HFV := hide hfv
          have CF := hide (fun W => few_any y.da y.aa y.dn y.dc y.an y.ac y.E W hdn han)
          unfold edV at CF
          obtain ⟨of, hof⟩ : ∃ o, decide (y.dn ≤ 60 ∧ y.an ≤ 60) = o := ⟨_, rfl⟩
          rw [hof] at CF
          have HYL := hide (show of = true → y.dn ≤ 60 ∧ y.an ≤ 60 from fun e => of_decide_eq_true (hof.trans e))
          have HYC := hide (fun W (hW : Below wr.heap.size wr W) => And.intro ((hW.cell (p := ⟨b, off + i * 7, none⟩) (World.block_lt_of_cell? wr _ c0)).trans c0) ( And.intro ((hW.cell (p := ⟨b, off + i * 7 + 1, none⟩) (World.block_lt_of_cell? wr _ c1)).trans c1) ( And.intro ((hW.cell (p := ⟨b, off + i * 7 + 2, none⟩) (World.block_lt_of_cell? wr _ c2)).trans c2) ( And.intro ((hW.cell (p := ⟨b, off + i * 7 + 3, none⟩) (World.block_lt_of_cell? wr _ c3)).trans c3) ( And.intro ((hW.cell (p := ⟨b, off + i * 7 + 4, none⟩) (World.block_lt_of_cell? wr _ c4)).trans c4) ( And.intro ((hW.cell (p := ⟨b, off + i * 7 + 5, none⟩) (World.block_lt_of_cell? wr _ c5)).trans c5) ( ((hW.cell (p := ⟨b, off + i * 7 + 6, none⟩) (World.block_lt_of_cell? wr _ c6)).trans c6))))))))
          clear hyo hy hof hdn han hNV hq hfv hek hkm hvh hK
          go_wp2_with fail
          refine (CF.out _).mono ?_
          rintro e w1 ⟨rfl, hb1⟩
          have HB1 := hide hb1
          have hs01 := hb1.size
          clear hb1 CF c0 c1 c2 c3 c4 c5 c6
          cases of with
          | false =>
            clear HYL HYC
            have HBF := hide (hst.out.bel.trans (HB1.out.mono hst.out.bel.size))
            clear hst
            go_wp2
            go_ret
            exact ⟨rfl, HBF.out⟩
          | true =>
            have hyl := HYL.out (by first | rfl | trivial)
            obtain ⟨X, hX⟩ : ∃ X, apv (appl V y.E) = X := ⟨_, rfl⟩
            obtain ⟨o, ho⟩ : ∃ o, (appl V y.E).isSome = o := ⟨_, rfl⟩
            obtain ⟨N, hN⟩ : ∃ n, X.f.length = n := ⟨_, rfl⟩
            have HX := hide hX
            have HO := hide ho
            have HN := hide hN
            have HX1 := hide (show (o = true → appl V y.E = some X) ∧ (o = false → appl V y.E = none) from by
              rw [← ho, ← hX]
              cases hr : appl V y.E with
              | none => exact ⟨(fun e => by cases e), (fun _ => rfl)⟩
              | some U => exact ⟨(fun _ => rfl), (fun e => by cases e)⟩)
            clear hX ho hN HYL
            go_upto_region 11 with fail
            go_cut [12, 13] from 48 to 150 (fun s12 s13 wx => s13 = .bool o ∧ Hid (∃ p a c, s12 = .pointer (some ⟨p, 0, none⟩) ∧ w1.heap.size ≤ p ∧ Ek wx p #[.int .i64 X.lg, .slice a N c, .int .u64 X.fl, .int .u64 X.ct, .int .u64 X.at9, .int .u64 X.ls] 31 ∧ c ≤ 9223372036854775807 ∧ OwnF wx w1.heap.size (.slice a N c) X.f ∧ Below w1.heap.size w1 wx))
            case first =>
              have HVW := hide (show ∀ W, Below w1.heap.size w1 W → Ek W B #[.int .i64 V.lg, .slice av NV cv, .int .u64 V.fl, .int .u64 V.ct, .int .u64 V.at9, .int .u64 V.ls] 31 from fun W hW => HEK.out.keep (HB1.out.trans (hW.mono HB1.out.size)))
              have HYC := hide (fun W (hW : Below w1.heap.size w1 W) => HYC.out W (HB1.out.trans (hW.mono HB1.out.size)))
              have CA := hide (show ∀ W, Below w1.heap.size w1 W → Calls Tryz.prog 26 #[.agg #[.int .i64 V.lg, .slice av NV cv, .int .u64 V.fl, .int .u64 V.ct, .int .u64 V.at9, .int .u64 V.ls], .agg #[.slice y.da y.dn y.dc, .slice y.aa y.an y.ac, .int .i64 y.E.lg, .int .u64 y.E.fl, .int .u64 y.E.ct, .int .u64 y.E.at9, .int .u64 y.E.ls]] W fun e w' => ∃ a c, e = .returned (.tuple #[.agg #[.int .i64 X.lg, .slice a N c, .int .u64 X.fl, .int .u64 X.ct, .int .u64 X.at9, .int .u64 X.ls], .bool o]) ∧ c ≤ 9223372036854775807 ∧ OwnF w' W.heap.size (.slice a N c) X.f ∧ Below W.heap.size W w' from fun W hW => by
                have hW2 : Below wr.heap.size wr W := HB1.out.trans (hW.mono HB1.out.size)
                have hyo := HYO.out.below hW2 (Nat.le_refl _)
                have hfv := HFV.out.below hW2 (Nat.le_refl _)
                refine (refapply_any av y.da y.aa NV cv y.dn y.dc y.an y.ac V y.E W hfv hyo.1.1 hyo.2.1.1 (by omega) (by omega) (by omega)).mono fun e w' h => ?_
                obtain ⟨a, c, h1, h2, h3, h4, h5⟩ := apr_any h
                rw [HX.out, HO.out, HN.out] at h1
                rw [HX.out, HN.out] at h3
                exact ⟨a, c, h1, h2, h3, h5⟩)
              clear HX HO HN HX1 HE hst
              refine region_si (PTh w1.heap.size (.agg #[.int .i64 V.lg, .slice av NV cv, .int .u64 V.fl, .int .u64 V.ct, .int .u64 V.at9, .int .u64 V.ls]) (some ⟨b, off, none⟩) len0 cap0 i b off (.agg #[.slice y.da y.dn y.dc, .slice y.aa y.an y.ac, .int .i64 y.E.lg, .int .u64 y.E.fl, .int .u64 y.E.ct, .int .u64 y.E.at9, .int .u64 y.E.ls]) N X o) (PG w1) (by kernel_rfl) (by kernel_rfl) (by kernel_rfl) ?start ?step ?fin
              case start => exact ⟨(Below.refl _ w1).drew, fun e => (by cases e)⟩
              case step =>
                intro L A W i_ hI hi hLi hw
                have hi2 : i_ < 12 := hi
                rcases (show i_ = 0 ∨ i_ = 1 ∨ i_ = 2 ∨ i_ = 3 ∨ i_ = 4 ∨ i_ = 5 ∨ i_ = 6 ∨ i_ = 7 ∨ i_ = 8 ∨ i_ = 9 ∨ i_ = 10 ∨ i_ = 11 by omega) with rfl | rfl | rfl | rfl | rfl | rfl | rfl | rfl | rfl | rfl | rfl | rfl
                · have e0 := hI.kept 10 _ (by decide +kernel) rfl
                  have c0 : W.cell? ⟨B, 0, none⟩ = some (.int .i64 V.lg) := (HVW.out W hI.g.1).cell rfl
                  have c1 : W.cell? ⟨B, 1, none⟩ = some (.slice av NV cv) := (HVW.out W hI.g.1).cell rfl
                  have c2 : W.cell? ⟨B, 2, none⟩ = some (.int .u64 V.fl) := (HVW.out W hI.g.1).cell rfl
                  have c3 : W.cell? ⟨B, 3, none⟩ = some (.int .u64 V.ct) := (HVW.out W hI.g.1).cell rfl
                  have c4 : W.cell? ⟨B, 4, none⟩ = some (.int .u64 V.at9) := (HVW.out W hI.g.1).cell rfl
                  have c5 : W.cell? ⟨B, 5, none⟩ = some (.int .u64 V.ls) := (HVW.out W hI.g.1).cell rfl
                  refine hI.pure (by kernel_rfl) (by decide +kernel) (i := 0) (d := 65) rfl rfl rfl (v := .agg #[.int .i64 V.lg, .slice av NV cv, .int .u64 V.fl, .int .u64 V.ct, .int .u64 V.at9, .int .u64 V.ls]) (rfl) (fun j u _ _ h => pth_keep (upd10 (by decide)) (Below.refl _ _) j u h) (pg_upd 0 (by decide) hI.g) ?_
                  intro K hKK
                  go_simp
                  exact hKK
                · have e0 := hI.kept 0 _ (by decide +kernel) rfl
                  refine hI.pure (by kernel_rfl) (by decide +kernel) (i := 1) (d := 66) rfl rfl rfl (v := .slice (some ⟨b, off, none⟩) len0 cap0) (rfl) (fun j u _ _ h => pth_keep (upd10 (by decide)) (Below.refl _ _) j u h) (pg_upd 1 (by decide) hI.g) ?_
                  intro K hKK
                  go_simp
                  exact hKK
                · have e0 := hI.kept 11 _ (by decide +kernel) rfl
                  refine hI.pure (by kernel_rfl) (by decide +kernel) (i := 2) (d := 67) rfl rfl rfl (v := .int .i64 (i : Int)) (rfl) (fun j u _ _ h => pth_keep (upd10 (by decide)) (Below.refl _ _) j u h) (pg_upd 2 (by decide) hI.g) ?_
                  intro K hKK
                  go_simp
                  exact hKK
                · obtain ⟨_, e0, rfl⟩ := hI.val 1 66 (by decide +kernel) (hw 1 (by kernel_rfl)) (by kernel_rfl)
                  obtain ⟨_, e1, rfl⟩ := hI.val 2 67 (by decide +kernel) (hw 2 (by kernel_rfl)) (by kernel_rfl)
                  refine hI.pure (by kernel_rfl) (by decide +kernel) (i := 3) (d := 68) rfl rfl rfl (v := .pointer (some ⟨b, off + i * 7, none⟩)) (rfl) (fun j u _ _ h => pth_keep (upd10 (by decide)) (Below.refl _ _) j u h) (pg_upd 3 (by decide) hI.g) ?_
                  intro K hKK
                  go_simp
                  exact hKK
                · obtain ⟨_, e0, rfl⟩ := hI.val 3 68 (by decide +kernel) (hw 3 (by kernel_rfl)) (by kernel_rfl)
                  obtain ⟨c0, c1, c2, c3, c4, c5, c6⟩ := HYC.out W hI.g.1
                  refine hI.pure (by kernel_rfl) (by decide +kernel) (i := 4) (d := 69) rfl rfl rfl (v := .agg #[.slice y.da y.dn y.dc, .slice y.aa y.an y.ac, .int .i64 y.E.lg, .int .u64 y.E.fl, .int .u64 y.E.ct, .int .u64 y.E.at9, .int .u64 y.E.ls]) (rfl) (fun j u _ _ h => pth_keep (upd10 (by decide)) (Below.refl _ _) j u h) (pg_upd 4 (by decide) hI.g) ?_
                  intro K hKK
                  go_simp
                  exact hKK
                · obtain ⟨_, e0, rfl⟩ := hI.val 0 65 (by decide +kernel) (hw 0 (by kernel_rfl)) (by kernel_rfl)
                  obtain ⟨_, e1, rfl⟩ := hI.val 4 69 (by decide +kernel) (hw 4 (by kernel_rfl)) (by kernel_rfl)
                  have h10 := pg10 hI.g (i := 5) (by decide) (by decide) hLi
                  refine hI.more (by kernel_rfl) (by decide +kernel) (i := 5) (d := 70) rfl rfl rfl ?_
                  intro K hKK
                  go_simp
                  refine (CA.out W hI.g.1).mono ?_
                  rintro e W' ⟨a', c', rfl, hc', ho', hb'⟩
                  exact hKK _ _ ⟨a', c', rfl, hc', fun _ => ownF_base ho' hI.g.1.size⟩ (fun j u _ _ h => pth_keep (upd10 (by decide)) hb' j u h) (pg_upd 5 (by decide) (pg_below hI.g hb'))
                · obtain ⟨_, e0, a', c', rfl, hc', ho'⟩ := hI.val 5 70 (by decide +kernel) (hw 5 (by kernel_rfl)) (by kernel_rfl)
                  refine hI.pure (by kernel_rfl) (by decide +kernel) (i := 6) (d := 64) rfl rfl rfl (v := .tuple #[.agg #[.int .i64 X.lg, .slice a' N c', .int .u64 X.fl, .int .u64 X.ct, .int .u64 X.at9, .int .u64 X.ls], .bool o]) (⟨a', c', rfl, hc', fun e => ho' ((upd10 (L := L) (i := 6) (by decide)).symm.trans e)⟩) (fun j u _ _ h => pth_keep (upd10 (by decide)) (Below.refl _ _) j u h) (pg_upd 6 (by decide) hI.g) ?_
                  intro K hKK
                  go_simp
                  exact hKK
                · obtain ⟨_, e0, a', c', rfl, hc', ho'⟩ := hI.val 6 64 (by decide +kernel) (hw 6 (by kernel_rfl)) (by kernel_rfl)
                  refine hI.pure (by kernel_rfl) (by decide +kernel) (i := 7) (d := 71) rfl rfl rfl (v := .agg #[.int .i64 X.lg, .slice a' N c', .int .u64 X.fl, .int .u64 X.ct, .int .u64 X.at9, .int .u64 X.ls]) (⟨a', c', rfl, hc', fun e => ho' ((upd10 (L := L) (i := 7) (by decide)).symm.trans e)⟩) (fun j u _ _ h => pth_keep (upd10 (by decide)) (Below.refl _ _) j u h) (pg_upd 7 (by decide) hI.g) ?_
                  intro K hKK
                  go_simp
                  exact hKK
                · obtain ⟨_, e0, a', c', rfl, hc', ho'⟩ := hI.val 6 64 (by decide +kernel) (hw 6 (by kernel_rfl)) (by kernel_rfl)
                  refine hI.pure (by kernel_rfl) (by decide +kernel) (i := 8) (d := 72) rfl rfl rfl (v := .bool o) (rfl) (fun j u _ _ h => pth_keep (upd10 (by decide)) (Below.refl _ _) j u h) (pg_upd 8 (by decide) hI.g) ?_
                  intro K hKK
                  go_simp
                  exact hKK
                · have h10 := pg10 hI.g (i := 9) (by decide) (by decide) hLi
                  refine hI.more (by kernel_rfl) (by decide +kernel) (i := 9) (d := 12) rfl rfl rfl ?_
                  intro K hKK
                  have A := (Below.refl _ W).alloc (Nat.le_refl _) (Obj.cells #[.int .i64 0, .slice none 0 0, .int .u64 0, .int .u64 0, .int .u64 0, .int .u64 0] 31)
                  go_simp
                  exact hKK _ _ ⟨W.heap.size, rfl, hI.g.1.size, fun _ => ek_new W _ _, fun e => (by rw [upd10 (by decide), h10] at e; cases e)⟩ (fun j u _ _ h => pth_keep (upd10 (by decide)) A j u h) (pg_upd 9 (by decide) (pg_below hI.g A))
                · obtain ⟨_, e0, a', c', rfl, hc', ho'⟩ := hI.val 7 71 (by decide +kernel) (hw 7 (by kernel_rfl)) (by kernel_rfl)
                  obtain ⟨_, e1, p, rfl, hHp, hz, _⟩ := hI.val 9 12 (by decide +kernel) (hw 9 (by kernel_rfl)) (by kernel_rfl)
                  have ho' := ho' hLi
                  have hz := hz hLi
                  refine hI.store (by decide +kernel) (i := 10) rfl rfl rfl ?_
                  intro K hKK
                  have z0 : W.cell? ⟨p, 0, none⟩ = some (.int .i64 0) := hz.cell rfl
                  have y0 := hz.free 0
                  have z1 : W.cell? ⟨p, 1, none⟩ = some (.slice none 0 0) := hz.cell rfl
                  have y1 := hz.free 1
                  have z2 : W.cell? ⟨p, 2, none⟩ = some (.int .u64 0) := hz.cell rfl
                  have y2 := hz.free 2
                  have z3 : W.cell? ⟨p, 3, none⟩ = some (.int .u64 0) := hz.cell rfl
                  have y3 := hz.free 3
                  have z4 : W.cell? ⟨p, 4, none⟩ = some (.int .u64 0) := hz.cell rfl
                  have y4 := hz.free 4
                  have z5 : W.cell? ⟨p, 5, none⟩ = some (.int .u64 0) := hz.cell rfl
                  have y5 := hz.free 5
                  have HZ := hide hz
                  have HOW := hide ho'
                  clear hz ho'
                  go_simp
                  have hg := egrow (k := 5) (u := .int .u64 X.ls) (egrow (k := 4) (u := .int .u64 X.at9) (egrow (k := 3) (u := .int .u64 X.ct) (egrow (k := 2) (u := .int .u64 X.fl) (egrow (k := 1) (u := .slice a' N c') (fgb_set W ⟨p, 0, none⟩ (.int .i64 X.lg))))))
                  have hzz := (((((HZ.out.set 0 (.int .i64 X.lg)).set 1 (.slice a' N c')).set 2 (.int .u64 X.fl)).set 3 (.int .u64 X.ct)).set 4 (.int .u64 X.at9)).set 5 (.int .u64 X.ls)
                  have how2 := ownF_far HOW.out hg (own_not_view HOW.out HZ.out)
                  refine hKK _ (fun j e u _ _ hde hu h => pth_store (upd_same _ _) j u (fun hj => ?_) h) ⟨hI.g.1.grown hg hI.g.1.size (fun k hk => by cases hk; exact hHp), fun _ j hj h8 => upd_more (hw j (waits_but (k := 8) (by kernel_rfl) j hj h8))⟩
                  subst hj
                  have he : some e = some 12 := hde.symm.trans (by kernel_rfl)
                  cases he
                  rw [e1] at hu
                  cases hu
                  exact ⟨p, rfl, hHp, fun e => (by rw [upd_same] at e; cases e), fun _ => ⟨a', c', hzz, hc', how2⟩⟩
                · obtain ⟨_, e0, rfl⟩ := hI.val 8 72 (by decide +kernel) (hw 8 (by kernel_rfl)) (by kernel_rfl)
                  refine hI.pure (by kernel_rfl) (by decide +kernel) (i := 11) (d := 13) rfl rfl rfl (v := .bool o) (rfl) (fun j u _ _ h => pth_keep (upd10 (by decide)) (Below.refl _ _) j u h) (pg_upd 11 (by decide) hI.g) ?_
                  intro K hKK
                  go_simp
                  exact hKK
              case fin =>
                intro L A W hI hall
                obtain ⟨_, s0, rfl⟩ := hI.val 0 65 (by decide +kernel) (hall 0 (by decide +kernel)) (by kernel_rfl)
                obtain ⟨_, s1, rfl⟩ := hI.val 1 66 (by decide +kernel) (hall 1 (by decide +kernel)) (by kernel_rfl)
                obtain ⟨_, s2, rfl⟩ := hI.val 2 67 (by decide +kernel) (hall 2 (by decide +kernel)) (by kernel_rfl)
                obtain ⟨_, s3, rfl⟩ := hI.val 3 68 (by decide +kernel) (hall 3 (by decide +kernel)) (by kernel_rfl)
                obtain ⟨_, s4, rfl⟩ := hI.val 4 69 (by decide +kernel) (hall 4 (by decide +kernel)) (by kernel_rfl)
                obtain ⟨_, s5, aq, cq, rfl, _, _⟩ := hI.val 5 70 (by decide +kernel) (hall 5 (by decide +kernel)) (by kernel_rfl)
                obtain ⟨_, s6, ar, cr, rfl, _, _⟩ := hI.val 6 64 (by decide +kernel) (hall 6 (by decide +kernel)) (by kernel_rfl)
                obtain ⟨_, s7, ay, cy, rfl, _, _⟩ := hI.val 7 71 (by decide +kernel) (hall 7 (by decide +kernel)) (by kernel_rfl)
                obtain ⟨_, s8, rfl⟩ := hI.val 8 72 (by decide +kernel) (hall 8 (by decide +kernel)) (by kernel_rfl)
                obtain ⟨_, s9, p, rfl, hHp, _, hp2⟩ := hI.val 9 12 (by decide +kernel) (hall 9 (by decide +kernel)) (by kernel_rfl)
                obtain ⟨_, s11, rfl⟩ := hI.val 11 13 (by decide +kernel) (hall 11 (by decide +kernel)) (by kernel_rfl)
                have hfr := si_frame hI [(65, .agg #[.int .i64 V.lg, .slice av NV cv, .int .u64 V.fl, .int .u64 V.ct, .int .u64 V.at9, .int .u64 V.ls]), (66, .slice (some ⟨b, off, none⟩) len0 cap0), (67, .int .i64 (i : Int)), (68, .pointer (some ⟨b, off + i * 7, none⟩)), (69, .agg #[.slice y.da y.dn y.dc, .slice y.aa y.an y.ac, .int .i64 y.E.lg, .int .u64 y.E.fl, .int .u64 y.E.ct, .int .u64 y.E.at9, .int .u64 y.E.ls]), (70, .tuple #[.agg #[.int .i64 X.lg, .slice aq N cq, .int .u64 X.fl, .int .u64 X.ct, .int .u64 X.at9, .int .u64 X.ls], .bool o]), (64, .tuple #[.agg #[.int .i64 X.lg, .slice ar N cr, .int .u64 X.fl, .int .u64 X.ct, .int .u64 X.at9, .int .u64 X.ls], .bool o]), (71, .agg #[.int .i64 X.lg, .slice ay N cy, .int .u64 X.fl, .int .u64 X.ct, .int .u64 X.at9, .int .u64 X.ls]), (72, .bool o), (12, .pointer (some ⟨p, 0, none⟩)), (13, .bool o)] (by kernel_rfl) (List.forall_mem_cons.2 ⟨s0, (List.forall_mem_cons.2 ⟨s1, (List.forall_mem_cons.2 ⟨s2, (List.forall_mem_cons.2 ⟨s3, (List.forall_mem_cons.2 ⟨s4, (List.forall_mem_cons.2 ⟨s5, (List.forall_mem_cons.2 ⟨s6, (List.forall_mem_cons.2 ⟨s7, (List.forall_mem_cons.2 ⟨s8, (List.forall_mem_cons.2 ⟨s9, (List.forall_mem_cons.2 ⟨s11, (by intro x hx; cases hx)⟩)⟩)⟩)⟩)⟩)⟩)⟩)⟩)⟩)⟩)⟩)
                obtain ⟨ax, cx, hekx, hcx, hox⟩ := hp2 (hall 10 (by decide +kernel))
                have hbx := hI.g.1
                rw [hfr]
                clear hfr hI hall hp2 s0 s1 s2 s3 s4 s5 s6 s7 s8 s9 s11
                simp only [List.foldl, List.setIfInBounds_toArray, List.set_cons_zero, List.set_cons_succ]
                go_wp2_with fail
                go_meet
                case rel => exact ⟨rfl, hide ⟨p, ax, cx, rfl, hHp, hekx, hcx, hox, hbx⟩⟩
            case rest =>
              obtain ⟨rfl, hvb⟩ := hcut
              obtain ⟨w2, hw2⟩ : ∃ x, x = wc := ⟨_, rfl⟩
              subst hw2
              obtain ⟨p, a, c, rfl, hp, hkp, hc, hop, hb2⟩ := hvb.out
              have HB2 := hide (HB1.out.trans (hb2.mono HB1.out.size))
              have KP := hide hkp
              have HOP := hide hop
              have HB12 := hide hb2
              have hs12 := hb2.size
              clear hvb hkp hop hb2
              go_upto_region 12 with fail
              go_cut [14] from 48 to 150 (fun s14 wx => ∃ q : Bool, s14 = .bool q ∧ (q = true → o = true ∧ emay y.E = 0) ∧ (q = false → o = false ∨ emay y.E ≠ 0) ∧ Hid (Below w2.heap.size w2 wx))
              case first =>
                cases o with
                | false =>
                  go_wp2_with fail
                  go_meet
                  case rel => exact ⟨false, rfl, (fun e => by cases e), (fun _ => .inl (by first | rfl | trivial)), hide (Below.refl _ _)⟩
                | true =>
                  obtain ⟨d0, d1, d2, d3, d4, d5, d6⟩ := HYC.out w2 HB2.out
                  have hyo := HYO.out.below HB2.out (Nat.le_refl _)
                  have CM := hide (editmay_any y.da y.dn y.dc y.aa y.an y.ac y.E w2 hyo.1.1 hyo.2.1.1 hyo.1.2 hyo.2.1.2)
                  unfold edV at CM
                  clear HX1 HX HO HN HE hyo hst
                  go_wp2_with fail
                  refine CM.out.mono ?_
                  rintro e w6 ⟨rfl, hb6⟩
                  by_cases hm : emay y.E = 0
                  · have qm : (emay y.E == 0) = true := by simp [hm]
                    have HM := hide hm
                    have HB6 := hide hb6
                    clear CM hm hb6
                    go_wp2_with fail
                    go_meet
                    case rel => exact ⟨true, by first | trivial | rfl, (fun _ => ⟨by first | trivial | rfl, HM.out⟩), (fun e => by cases e), HB6⟩
                  · have qm : (emay y.E == 0) = false := by simp [hm]
                    have HM := hide hm
                    have HB6 := hide hb6
                    clear CM hm hb6
                    go_wp2_with fail
                    go_meet
                    case rel => exact ⟨false, by first | trivial | rfl, (fun e => by cases e), (fun _ => .inr HM.out), HB6⟩
              case rest =>
                obtain ⟨q, rfl, hqq, hqf, hbw⟩ := hcut
                obtain ⟨w3, hw3⟩ : ∃ x, x = wc := ⟨_, rfl⟩
                subst hw3
                have HB3 := hide (HB2.out.trans (hbw.out.mono HB2.out.size))
                have HQ := hide hqq
                have HQF := hide hqf
                have KP3 := hide (KP.out.below hbw.out KP.out.lt)
                have HOP3 := hide (ownF_keep HOP.out hbw.out)
                have HB13 := hide (HB12.out.trans (hbw.out.mono HB12.out.size))
                have hs23 := hbw.out.size
                clear hbw KP HOP hqq hqf HB12
                go_upto_region 13 with fail
                go_cut [15] from 48 to 150 (fun s15 wx => (q = true ∧ s15 = .int .i64 0 ∧ Hid (∃ a0 c0 S', Ek wx p (gvcs a c X) 31 ∧ Ek wx B (gvcs a0 c0 V) 31 ∧ SvL w (set6 wx B (.int .i64 X.lg) (.slice a N c) (.int .u64 X.fl) (.int .u64 X.ct) (.int .u64 X.at9) (.int .u64 X.ls)) B M R n T (l ++ [y.E]) X S' (i + 1) (3000 + 2646 * i + 1312) (i + 1) (1000 + 400 * i + 2))) ∨
                  (q = false ∧ s15 = .int .i64 1 ∧ Hid (SvL w wx B M R n T l V S (i + 1) (3000 + 2646 * i + 1312) (i + 1) (1000 + 400 * i + 2))))
                case first =>
                  obtain ⟨d0, d1, d2, d3, d4, d5, d6⟩ := HYC.out w3 HB3.out
                  have hyo := HYO.out.below HB3.out (Nat.le_refl _)
                  have hu : 0 ≤ y.E.fl ∧ 0 ≤ y.E.ct ∧ 0 ≤ y.E.at9 ∧ 0 ≤ y.E.ls := ⟨hyo.2.2.2.1.1, hyo.2.2.2.2.1.1, hyo.2.2.2.2.2.1.1, hyo.2.2.2.2.2.2.1⟩
                  cases q with
                  | false =>
                    have SB := hide (svl_refused (hst.out.below HB3.out) y.da y.aa y.dn y.dc y.an y.ac y.E hyo.1.1 hyo.2.1.1 hyl.1 hyl.2 hu hi (by omega) (by
                      rcases HQF.out rfl with h | h
                      · exact .inr (HX1.out.2 h)
                      · exact .inl h))
                    unfold edV at SB
                    clear hyo hu HE HX HO HN HX1 HYO HYC HQ HQF KP3 HOP3
                    go_wp2_with fail
                    refine SB.out.mono ?_
                    rintro e w4 ⟨rfl, h4⟩
                    have HST4 := hide (h4.mono (show i ≤ i + 1 by omega) (show 3000 + 2646 * i ≤ 3000 + 2646 * i + 1312 by omega) (Nat.le_refl _) (show 1000 + 400 * i ≤ 1000 + 400 * i + 2 by omega))
                    clear SB h4 hst
                    go_wp2_with fail
                    go_meet
                    case rel => exact .inr ⟨by first | rfl | trivial, by first | rfl | trivial, HST4⟩
                  | true =>
                    obtain ⟨ho1, hm⟩ := HQ.out rfl
                    have hap := HX1.out.1 ho1
                    have hwf := vok_wfS (appl_ok hap)
                    have hopX : OwnF w3 w1.heap.size (.slice a X.f.length c) X.f := by rw [HN.out]; exact HOP3.out
                    have hfsX := ownF_fsN hopX hwf rfl
                    have hbX := hst.out.below HB1.out
                    have SB := hide (svl_saved hbX HB13.out (p := p) (by unfold gvcs; rw [HN.out]; exact KP3.out) hp hfsX.2 hc (fun h0 q hq => World.ownsRow.lt hopX q.block (by rw [hq]; rfl)) y.da y.aa y.dn y.dc y.an y.ac y.E hyo.1.1 hyo.2.1.1 hyl.1 hyl.2 ⟨hm, hu⟩ hap hi (by omega) (by omega))
                    unfold edV at SB
                    rw [HN.out] at SB
                    clear hyo hu HE HX HO HN HX1 HYO HYC HQ HQF KP3 HOP3 hst hbX hopX hfsX hap hwf ho1 hm
                    go_wp2_with fail
                    refine SB.out.mono ?_
                    rintro e w4 ⟨rfl, h4⟩
                    have HST4 := hide h4
                    clear SB h4
                    go_wp2_with fail
                    go_meet
                    case rel => exact .inl ⟨by first | rfl | trivial, by first | rfl | trivial, HST4⟩
                case rest =>
                  obtain ⟨w4, hw4⟩ : ∃ x, x = wc := ⟨_, rfl⟩
                  subst hw4
                  have HC := hide hcut
                  clear hcut HEK HFV HYO HYC HX HO HX1 HB1 HB2 HB3 HB13 HQ HQF KP3 HOP3 hst hyl hp hc
                  go_upto_region 14 with fail
                  go_cut [99] from 48 to 150 (fun s99 wx => s99 = .bool false ∧ w4 = wx)
                  case first =>
                    clear HE HK
                    rcases HC.out with ⟨rfl, rfl, -⟩ | ⟨rfl, rfl, -⟩
                    all_goals
                      clear HC
                      go_wp2_with fail
                      go_meet
                      case rel => exact ⟨by first | trivial | rfl, rfl⟩
                  case rest =>
                    obtain ⟨rfl, rfl⟩ := hcut
                    go_upto_if 100 with fail
                    go_cut [11] from 48 to 150 (fun s11 wx => s11 = .int .i64 (i : Nat) ∧ ∃ (l2 : List Ed) (V2 : Vw) (S2 : St), Hid (SvL w wx B M R n T l2 V2 S2 (i + 1) (3000 + 2646 * i + 1312) (i + 1) (1000 + 400 * i + 2)))
                    case first =>
                      clear HE HK
                      rcases HC.out with ⟨rfl, rfl, h4⟩ | ⟨rfl, rfl, h4⟩
                      · obtain ⟨a9, c9, S', hkp, hkB, h5⟩ := h4.out
                        unfold gvcs at hkp hkB
                        rw [HN.out] at hkp
                        rw [HNV.out] at hkB
                        unfold set6 at h5
                        have HST5 := hide h5
                        have px0 : w4.cell? ⟨p, 0, none⟩ = some (.int .i64 X.lg) := hkp.cell rfl
                        have px1 : w4.cell? ⟨p, 1, none⟩ = some (.slice a N c) := hkp.cell rfl
                        have px2 : w4.cell? ⟨p, 2, none⟩ = some (.int .u64 X.fl) := hkp.cell rfl
                        have px3 : w4.cell? ⟨p, 3, none⟩ = some (.int .u64 X.ct) := hkp.cell rfl
                        have px4 : w4.cell? ⟨p, 4, none⟩ = some (.int .u64 X.at9) := hkp.cell rfl
                        have px5 : w4.cell? ⟨p, 5, none⟩ = some (.int .u64 X.ls) := hkp.cell rfl
                        have va0 : w4.cell? ⟨B, 0, none⟩ = some (.int .i64 V.lg) := hkB.cell rfl
                        have va1 : w4.cell? ⟨B, 1, none⟩ = some (.slice a9 NV c9) := hkB.cell rfl
                        have va2 : w4.cell? ⟨B, 2, none⟩ = some (.int .u64 V.fl) := hkB.cell rfl
                        have va3 : w4.cell? ⟨B, 3, none⟩ = some (.int .u64 V.ct) := hkB.cell rfl
                        have va4 : w4.cell? ⟨B, 4, none⟩ = some (.int .u64 V.at9) := hkB.cell rfl
                        have va5 : w4.cell? ⟨B, 5, none⟩ = some (.int .u64 V.ls) := hkB.cell rfl
                        have vf0 : w4.frozen? ⟨B, 0, none⟩ = false := hkB.free 0
                        have vf1 : w4.frozen? ⟨B, 1, none⟩ = false := hkB.free 1
                        have vf2 : w4.frozen? ⟨B, 2, none⟩ = false := hkB.free 2
                        have vf3 : w4.frozen? ⟨B, 3, none⟩ = false := hkB.free 3
                        have vf4 : w4.frozen? ⟨B, 4, none⟩ = false := hkB.free 4
                        have vf5 : w4.frozen? ⟨B, 5, none⟩ = false := hkB.free 5
                        have hlv := hkB.lt
                        have hlp := hkp.lt
                        clear hkp hkB h4 HC h5
                        go_wp2_with fail
                        go_meet
                        case rel => exact ⟨by first | trivial | rfl, _, _, _, HST5⟩
                      · clear HC
                        go_wp2_with fail
                        go_meet
                        case rel => exact ⟨by first | trivial | rfl, _, _, _, h4⟩
                    case rest =>
                      obtain ⟨rfl, l2, V2, S2, hst2⟩ := hcut
                      obtain ⟨w5, hw5⟩ : ∃ x, x = wc := ⟨_, rfl⟩
                      subst hw5
                      clear HC HN HNV hvok
                      have z1 : (0 : Int) ≤ bits .and .i64 (i : Int) 31 := (andi (i : Int) 31 (by decide)).1
                      have z2 : bits .and .i64 (i : Int) 31 ≤ 31 := (andi (i : Int) 31 (by decide)).2
                      go_upto_region 18 with fail
                      go_cut [112] from 48 to 150 (fun s112 wx => s112 = .bool false ∧ ∃ (n3 T3 : Nat) (l3 : List Ed) (S3 : St), Hid (SvL w wx B M R n3 T3 l3 V2 S3 (i + 1) (3000 + 2646 * (i + 1)) (i + 2) (1000 + 400 * i + 102)))
                      case first =>
                        clear HE HK
                        cases q2 : (bits .and .i64 (wh0 / 2 ^ (bits .and .i64 (i : Int) 31).toNat) 1 == 1)
                        · go_wp2_with fail
                          go_meet
                          case rel => exact ⟨by first | trivial | rfl, n, T, l2, S2, hide (hst2.out.mono (Nat.le_refl _) (by omega) (by omega) (by omega))⟩
                        · have RW := hide (svl_rewrite hst2.out (by omega) (by omega) (by omega) (by omega))
                          clear hst2
                          go_wp2_with fail
                          refine RW.out.mono ?_
                          rintro e w6 ⟨rfl, n3, T3, l3, S3, h6⟩
                          have H6 := hide (h6.mono (Nat.le_refl _) (show 3000 + 2646 * i + 1312 + 1334 ≤ 3000 + 2646 * (i + 1) by omega) (show i + 1 + 1 ≤ i + 2 by omega) (show 1000 + 400 * i + 2 + 100 ≤ 1000 + 400 * i + 102 by omega))
                          clear RW h6
                          go_wp2_with fail
                          go_meet
                          case rel => exact ⟨by first | trivial | rfl, n3, T3, l3, S3, H6⟩
                      case rest =>
                        obtain ⟨rfl, n3, T3, l3, S3, hst3⟩ := hcut
                        obtain ⟨w6, hw6⟩ : ∃ x, x = wc := ⟨_, rfl⟩
                        subst hw6
                        clear hst2 z1 z2
                        obtain ⟨i9, hi9⟩ : ∃ k : Nat, (i : Int) + 9 = (k : Int) := ⟨i + 9, by omega⟩
                        have z1 : (0 : Int) ≤ bits .and .i64 (i9 : Int) 31 := (andi (i9 : Int) 31 (by decide)).1
                        have z2 : bits .and .i64 (i9 : Int) 31 ≤ 31 := (andi (i9 : Int) 31 (by decide)).2
                        go_upto_if 119 with fail
                        go_cut [8, 16, 17] from 48 to 150 (fun s8 s16 s17 wx => ∃ (M4 n4 T4 : Nat) (l4 : List Ed) (S4 : St), s8 = .pointer (some ⟨M4, 0, none⟩) ∧ Hid (SvL w wx B M4 R n4 T4 l4 V2 S4 (i + 1) (3000 + 2646 * (i + 1)) (i + 1 + 1) (1000 + 400 * (i + 1))))
                        case first =>
                          clear HE
                          cases q3 : (bits .and .i64 (wh0 / 2 ^ (bits .and .i64 (i9 : Int) 31).toNat) 3 == 3)
                          · clear HK
                            go_wp2_with fail
                            go_meet
                            case rel => exact ⟨M, n3, T3, l3, S3, by first | trivial | rfl, hide (hst3.out.mono (Nat.le_refl _) (Nat.le_refl _) (Nat.le_refl _) (by omega))⟩
                          · have CR := hide (svl_crash hst3.out a2 ks.length cap2 ks HK.out (by omega))
                            clear hst3 HK
                            go_wp2_with fail
                            refine CR.out.mono ?_
                            rintro e w7 ⟨rfl, T7, S7, h7⟩
                            have OP := hide (svd_open h7 (by omega) (by omega) (by omega) (by omega))
                            clear CR h7
                            go_wp2_with fail
                            refine OP.out.mono ?_
                            rintro e w8 ⟨M8, n8, T8, l8, S8, rfl, h8⟩
                            have H8 := hide (h8.mono (Nat.le_refl _) (Nat.le_refl _) (show i + 2 ≤ i + 1 + 1 by omega) (show 1000 + 400 * i + 102 + 100 ≤ 1000 + 400 * (i + 1) by omega))
                            clear OP h8
                            go_wp2_with fail
                            go_meet
                            case rel => exact ⟨M8, n8, T8, l8, S8, by first | trivial | rfl, H8⟩
                        case rest =>
                          obtain ⟨M4, n4, T4, l4, S4, rfl, hst4⟩ := hcut
                          obtain ⟨w7, hw7⟩ : ∃ x, x = wc := ⟨_, rfl⟩
                          subst hw7
                          clear hst3 z1 z2 hi9
                          obtain ⟨K, hK, hkm, hvh⟩ := hst4.out.km
                          obtain ⟨av, cv, hek, hfv, hcv, -⟩ := hvh.ex
                          obtain ⟨NW, hNW⟩ : ∃ n, V2.f.length = n := ⟨_, rfl⟩
                          obtain ⟨LN, hLN⟩ : ∃ n, l4.length = n := ⟨_, rfl⟩
                          have hnw : NW ≤ 9223372036854775807 := by have := vok_40S hst4.out.mp.vok; omega
                          have hgt : ¬ (IntKind.i64.wrap ((31 : Int) + (i : Int)) < (LN : Int)) := by
                            have hwr : IntKind.i64.wrap ((31 : Int) + (i : Int)) = 31 + (i : Int) := by simp [IntKind.wrap, IntKind.bits, IntKind.signed]; omega
                            rw [hwr]
                            have := hst4.out.len
                            omega
                          unfold gvcs at hek
                          rw [hNW] at hek hfv
                          have VW := hide (fun W (hW : Below w7.heap.size w7 W) => km_view (hkm.below hW) (by have := vok_40S hst4.out.mp.vok; omega))
                          have BK := hide (fun W (hW : Below w7.heap.size w7 W) => km_broken (hkm.below hW))
                          have CT := hide (fun W (hW : Below w7.heap.size w7 W) => km_count (hkm.below hW))
                          unfold vwV at VW
                          rw [hNW] at VW
                          rw [hLN] at CT
                          have SM := hide (fun (a : Option Addr) (c' : Nat) (W7 W : World) (h7 : Below w7.heap.size w7 W7) (hW : Below W7.heap.size W7 W) (f7 : Fs W7 a NW c' V2.f) => sameview_any a av NW c' NW cv V2 V2 W (f7.below hW (Nat.le_refl _)) (hfv.below (bmore h7 hW) (Nat.le_refl _)) hnw hnw)
                          unfold vwV at SM
                          have d0 := hek.cell (o := 0) rfl
                          have d1 := hek.cell (o := 1) rfl
                          have d2 := hek.cell (o := 2) rfl
                          have d3 := hek.cell (o := 3) rfl
                          have d4 := hek.cell (o := 4) rfl
                          have d5 := hek.cell (o := 5) rfl
                          have HEK := hide hek
                          have hb0 : Below w7.heap.size w7 w7 := Below.refl _ _
                          have hb1 : Below w7.heap.size w7 w7.drew := (Below.refl _ _).drew
                          clear hK hkm hvh hek hfv hcv hNW hLN HE HK
                          go_upto_region 26 with fail
                          go_region_with (first
                            | (go_at_call 15; refine (VW.out _ (by with_reducible assumption)).mono ?_; rintro e w8 ⟨a, c', rfl, -, f8, -, hb8⟩; have hb8 : Below w7.heap.size w7 w8 := bmore (by with_reducible assumption) hb8; have HB8 := hide hb8; have F8 := hide f8; have hk8 := HEK.out.keep hb8; have e0 := hk8.cell (o := 0) rfl; have e1 := hk8.cell (o := 1) rfl; have e2 := hk8.cell (o := 2) rfl; have e3 := hk8.cell (o := 3) rfl; have e4 := hk8.cell (o := 4) rfl; have e5 := hk8.cell (o := 5) rfl; have hc0 : Below w8.heap.size w8 w8 := Below.refl _ _; have hc1 : Below w8.heap.size w8 w8.drew := (Below.refl _ _).drew; clear f8 hb8 hk8)
                            | (go_at_call 14; refine (SM.out _ _ w8 _ HB8.out (by with_reducible assumption) F8.out).mono ?_; rintro e w9 ⟨o, rfl, ho, hb9⟩; obtain rfl : o = true := ho.2 (by first | rfl | trivial); have hb9 : Below w7.heap.size w7 w9 := bmore HB8.out (bmore (by with_reducible assumption) hb9); have HB9 := hide hb9; have he1 : Below w7.heap.size w7 w9.drew := hb9.drew; clear ho)
                            | (go_at_call 30; refine (BK.out _ (by with_reducible assumption)).mono ?_; rintro e w10 ⟨rfl, rfl⟩)
                            | (go_at_call 13; refine (CT.out _ (by with_reducible assumption)).mono ?_; rintro e w10 ⟨rfl, rfl⟩))
                          all_goals
                            have HST9 := hide (hst4.out.below HB9.out)
                            clear SM VW BK CT HB8 HB9 HEK hst4
                            go_wp2_with fail
                            refine ⟨⟨i + 1, M4, n4, T4, l4, V2, S4, by omega, rfl, by go_num, HST9⟩, by simp [intOf]; omega⟩
        | false =>
          have OP := hide (svd_open hst.out.d (by omega) (by omega) (by omega) (by omega))
          clear hst HE HK hvok hq
          go_wp2_with fail
          refine OP.out.mono ?_
          rintro e w7 ⟨M4, n4, T4, l4, S4, rfl, hst4⟩
          obtain ⟨K, hK, hkm, hvh⟩ := hst4.km
          obtain ⟨av, cv, hek, hfv, hcv, -⟩ := hvh.ex
          obtain ⟨NW, hNW⟩ : ∃ n, V.f.length = n := ⟨_, rfl⟩
          have hnw : NW ≤ 9223372036854775807 := by have := vok_40S hst4.mp.vok; omega
          unfold gvcs at hek
          rw [hNW] at hek hfv
          have VW := hide (fun W (hW : Below w7.heap.size w7 W) => km_view (hkm.below hW) (by have := vok_40S hst4.mp.vok; omega))
          unfold vwV at VW
          rw [hNW] at VW
          have SM := hide (fun (a : Option Addr) (c' : Nat) (W7 W : World) (h7 : Below w7.heap.size w7 W7) (hW : Below W7.heap.size W7 W) (f7 : Fs W7 a NW c' V.f) => sameview_any a av NW c' NW cv V V W (f7.below hW (Nat.le_refl _)) (hfv.below (bmore h7 hW) (Nat.le_refl _)) hnw hnw)
          unfold vwV at SM
          have d0 := hek.cell (o := 0) rfl
          have d1 := hek.cell (o := 1) rfl
          have d2 := hek.cell (o := 2) rfl
          have d3 := hek.cell (o := 3) rfl
          have d4 := hek.cell (o := 4) rfl
          have d5 := hek.cell (o := 5) rfl
          have HEK := hide hek
          have HBL := hide hst4.bel
          have hb0 : Below w7.heap.size w7 w7 := Below.refl _ _
          have hb1 : Below w7.heap.size w7 w7.drew := (Below.refl _ _).drew
          clear hK hkm hvh hek hfv hcv hNW OP hst4
          go_upto_region 29 with fail
          refine wp_region_any (by kernel_rfl) ?_
          try (change wpAny _ _ _ _ _ _ _ (World.drew _))
          refine wpAny_ready (rs := [0]) (by kernel_rfl) (by simp) ?_
          refine AllReady.cons rfl (fun K hK => ?_) AllReady.nil
          go_simp
          refine hK _ _ ?_
          clear hK K
          refine wpAny_ready (rs := [1]) (by kernel_rfl) (by simp) ?_
          refine AllReady.cons rfl (fun K hK => ?_) AllReady.nil
          go_simp
          refine hK _ _ ?_
          clear hK K
          refine wpAny_ready (rs := [2]) (by kernel_rfl) (by simp) ?_
          refine AllReady.cons rfl (fun K hK => ?_) AllReady.nil
          go_simp
          refine hK _ _ ?_
          clear hK K
          refine wpAny_ready (rs := [3]) (by kernel_rfl) (by simp) ?_
          refine AllReady.cons rfl (fun K hK => ?_) AllReady.nil
          go_simp
          refine hK _ _ ?_
          clear hK K
          refine wpAny_ready (rs := [4]) (by kernel_rfl) (by simp) ?_
          refine AllReady.cons rfl (fun K hK => ?_) AllReady.nil
          go_simp
          refine hK _ _ ?_
          clear hK K
          refine wpAny_ready (rs := [5]) (by kernel_rfl) (by simp) ?_
          refine AllReady.cons rfl (fun K hK => ?_) AllReady.nil
          go_simp
          refine hK _ _ ?_
          clear hK K
          refine wpAny_ready (rs := [6]) (by kernel_rfl) (by simp) ?_
          refine AllReady.cons rfl (fun K hK => ?_) AllReady.nil
          go_simp
          refine hK _ _ ?_
          clear hK K
          refine wpAny_ready (rs := [7, 9]) (by kernel_rfl) (by simp) ?_
          refine AllReady.cons rfl (fun K hK => ?_) (AllReady.cons rfl (fun K hK => ?_) AllReady.nil)
          · go_simp
            refine hK _ _ ?_
            clear hK K
            refine wpAny_ready (rs := [8, 9]) (by kernel_rfl) (by simp) ?_
            refine AllReady.cons rfl (fun K hK => ?_) (AllReady.cons rfl (fun K hK => ?_) AllReady.nil)
            · go_simp
              go_wp2_with (go_at_call 15; refine (VW.out _ (by with_reducible assumption)).mono ?_; rintro e w8 ⟨a, c', rfl, -, f8, -, hb8⟩; have hb8 : Below w7.heap.size w7 w8 := bmore (by with_reducible assumption) hb8; have HB8 := hide hb8; have F8 := hide f8; have hk8 := HEK.out.keep hb8; have e0 := hk8.cell (o := 0) rfl; have e1 := hk8.cell (o := 1) rfl; have e2 := hk8.cell (o := 2) rfl; have e3 := hk8.cell (o := 3) rfl; have e4 := hk8.cell (o := 4) rfl; have e5 := hk8.cell (o := 5) rfl; have hc0 : Below w8.heap.size w8 w8 := Below.refl _ _; have hc1 : Below w8.heap.size w8 w8.drew := (Below.refl _ _).drew; clear f8 hb8 hk8)
              refine wpAny_ready (rs := [9]) (by kernel_rfl) (by simp) ?_
              refine AllReady.cons rfl (fun K hK => ?_) AllReady.nil
              go_simp
              refine hK _ _ ?_
              clear hK K
              refine wpAny_ready (rs := [10]) (by kernel_rfl) (by simp) ?_
              refine AllReady.cons rfl (fun K hK => ?_) AllReady.nil
              go_simp
              go_wp2_with (go_at_call 14; refine (SM.out _ _ w8 _ HB8.out (by with_reducible assumption) F8.out).mono ?_; rintro e w9 ⟨o, rfl, ho, hb9⟩; obtain rfl : o = true := ho.2 (by first | rfl | trivial); have HB9 := hide (show Below w7.heap.size w7 w9 from bmore HB8.out (bmore (by with_reducible assumption) hb9)); clear ho hb9)
              refine wpAny_ready (rs := [11]) (by kernel_rfl) (by simp) ?_
              refine AllReady.cons rfl (fun K hK => ?_) AllReady.nil
              go_simp
              refine hK _ _ ?_
              clear hK K
              refine wpAny_ready (rs := [12]) (by kernel_rfl) (by simp) ?_
              refine AllReady.cons rfl (fun K hK => ?_) AllReady.nil
              go_simp
              refine hK _ _ ?_
              clear hK K
              refine wpAny_done (by kernel_rfl) ?_ _
              have HBN := hide (HBL.out.trans (HB9.out.mono HBL.out.size))
              clear SM VW HB8 HB9 HEK HBL
              go_wp2
              go_ret
              exact ⟨rfl, HBN.out⟩
            · go_simp
              refine hK _ _ ?_
              clear hK K
              refine wpAny_ready (rs := [8]) (by kernel_rfl) (by simp) ?_
              refine AllReady.cons rfl (fun K hK => ?_) AllReady.nil
              go_simp
              go_wp2_with (go_at_call 15; refine (VW.out _ (by with_reducible assumption)).mono ?_; rintro e w8 ⟨a, c', rfl, -, f8, -, hb8⟩; have hb8 : Below w7.heap.size w7 w8 := bmore (by with_reducible assumption) hb8; have HB8 := hide hb8; have F8 := hide f8; have hk8 := HEK.out.keep hb8; have e0 := hk8.cell (o := 0) rfl; have e1 := hk8.cell (o := 1) rfl; have e2 := hk8.cell (o := 2) rfl; have e3 := hk8.cell (o := 3) rfl; have e4 := hk8.cell (o := 4) rfl; have e5 := hk8.cell (o := 5) rfl; have hc0 : Below w8.heap.size w8 w8 := Below.refl _ _; have hc1 : Below w8.heap.size w8 w8.drew := (Below.refl _ _).drew; clear f8 hb8 hk8)
              refine wpAny_ready (rs := [10]) (by kernel_rfl) (by simp) ?_
              refine AllReady.cons rfl (fun K hK => ?_) AllReady.nil
              go_simp
              go_wp2_with (go_at_call 14; refine (SM.out _ _ w8 _ HB8.out (by with_reducible assumption) F8.out).mono ?_; rintro e w9 ⟨o, rfl, ho, hb9⟩; obtain rfl : o = true := ho.2 (by first | rfl | trivial); have HB9 := hide (show Below w7.heap.size w7 w9 from bmore HB8.out (bmore (by with_reducible assumption) hb9)); clear ho hb9)
              refine wpAny_ready (rs := [11]) (by kernel_rfl) (by simp) ?_
              refine AllReady.cons rfl (fun K hK => ?_) AllReady.nil
              go_simp
              refine hK _ _ ?_
              clear hK K
              refine wpAny_ready (rs := [12]) (by kernel_rfl) (by simp) ?_
              refine AllReady.cons rfl (fun K hK => ?_) AllReady.nil
              go_simp
              refine hK _ _ ?_
              clear hK K
              refine wpAny_done (by kernel_rfl) ?_ _
              have HBN := hide (HBL.out.trans (HB9.out.mono HBL.out.size))
              clear SM VW HB8 HB9 HEK HBL
              go_wp2
              go_ret
              exact ⟨rfl, HBN.out⟩
          · go_simp
            refine hK _ _ ?_
            clear hK K
            refine wpAny_ready (rs := [7]) (by kernel_rfl) (by simp) ?_
            refine AllReady.cons rfl (fun K hK => ?_) AllReady.nil
            go_simp
            refine hK _ _ ?_
            clear hK K
            refine wpAny_ready (rs := [8]) (by kernel_rfl) (by simp) ?_
            refine AllReady.cons rfl (fun K hK => ?_) AllReady.nil
            go_simp
            go_wp2_with (go_at_call 15; refine (VW.out _ (by with_reducible assumption)).mono ?_; rintro e w8 ⟨a, c', rfl, -, f8, -, hb8⟩; have hb8 : Below w7.heap.size w7 w8 := bmore (by with_reducible assumption) hb8; have HB8 := hide hb8; have F8 := hide f8; have hk8 := HEK.out.keep hb8; have e0 := hk8.cell (o := 0) rfl; have e1 := hk8.cell (o := 1) rfl; have e2 := hk8.cell (o := 2) rfl; have e3 := hk8.cell (o := 3) rfl; have e4 := hk8.cell (o := 4) rfl; have e5 := hk8.cell (o := 5) rfl; have hc0 : Below w8.heap.size w8 w8 := Below.refl _ _; have hc1 : Below w8.heap.size w8 w8.drew := (Below.refl _ _).drew; clear f8 hb8 hk8)
            refine wpAny_ready (rs := [10]) (by kernel_rfl) (by simp) ?_
            refine AllReady.cons rfl (fun K hK => ?_) AllReady.nil
            go_simp
            go_wp2_with (go_at_call 14; refine (SM.out _ _ w8 _ HB8.out (by with_reducible assumption) F8.out).mono ?_; rintro e w9 ⟨o, rfl, ho, hb9⟩; obtain rfl : o = true := ho.2 (by first | rfl | trivial); have HB9 := hide (show Below w7.heap.size w7 w9 from bmore HB8.out (bmore (by with_reducible assumption) hb9)); clear ho hb9)
            refine wpAny_ready (rs := [11]) (by kernel_rfl) (by simp) ?_
            refine AllReady.cons rfl (fun K hK => ?_) AllReady.nil
            go_simp
            refine hK _ _ ?_
            clear hK K
            refine wpAny_ready (rs := [12]) (by kernel_rfl) (by simp) ?_
            refine AllReady.cons rfl (fun K hK => ?_) AllReady.nil
            go_simp
            refine hK _ _ ?_
            clear hK K
            refine wpAny_done (by kernel_rfl) ?_ _
            have HBN := hide (HBL.out.trans (HB9.out.mono HBL.out.size))
            clear SM VW HB8 HB9 HEK HBL
            go_wp2
            go_ret
            exact ⟨rfl, HBN.out⟩

end Go.Proofs.YtcahlmneancapaaGreatDoor.Clep
