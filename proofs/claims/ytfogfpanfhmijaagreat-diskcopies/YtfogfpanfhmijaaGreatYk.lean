/- A Disk that is being copied: which files have been met, where their copies lie, and that all parts together are a Disk again. No conditions. -/
import Derived.Test.YtfogfpanfhmijaaGreatYi
import Derived.Test.YtfogfpanfhmijaaGreatYj
import Derived.BigRegion
namespace Go.Proofs.YtfogfpanfhmijaaGreat.Clep
open Go.RowKit Go.Maps
set_option linter.unusedVariables false

def mkP : Option Nat → Value
  | none => .pointer none
  | some b => .pointer (some ⟨b, 0, none⟩)
theorem ptr_inv {v : Value} {y : DataW Unit × List MemPlace} (h : ptrElem v = some y) : ∃ c, v = mkP c := by
  unfold ptrElem at h
  split at h
  · exact ⟨none, rfl⟩
  · exact ⟨some _, rfl⟩
  · cases h
/-- THE STEP of a range over the map of files. -/
theorem next_if (w : World) {ops : Array Oper} {rest : List Oper} {o : Oper} {a : Act} {Q : Exit → Act → World → Prop} (hg : o.guard = none) (it : Operand) (hop : o.op = Op.next it false)
    (b r n : Nat) (D : DataW Unit) (left : Lit → Bool) (cnt : Nat) (β : Nat → Nat) (fs : List Fl) (hD : FilesD β fs D) (hit : a.eval it = .pointer (some ⟨r, 0, none⟩)) (h : w.ranges Tryz.prog 3 ptrElem b r n D left cnt)
    (hDone : cnt = 0 → (∀ kl, left kl = false) → wpList Tryz.prog ops Q rest (a.put o.dst (.tuple #[.bool false])) w)
    (hMore : ∀ (f : Fl) (w' : World) (cnt' : Nat), f ∈ fs → (Lit.int .i64 (f.num : Int)).wf = true → left (.int .i64 f.num) = true → w'.ranges Tryz.prog 3 ptrElem b r n D (fun z => left z && !z.sameKey (.int .i64 f.num)) cnt' → cnt' < cnt →
      w.grownBy w' (some r) → w'.heap.size = w.heap.size → (Instr.entry (.pointer (some ⟨r, 0, none⟩))).run Tryz.prog w' = .ok (.tuple #[.int .i64 f.num, .pointer (some ⟨β f.num, 0, none⟩)]) w' → wpList Tryz.prog ops Q rest (a.put o.dst (.tuple #[.bool true, .int .i64 f.num, .pointer (some ⟨β f.num, 0, none⟩)])) w') :
    wpList Tryz.prog ops Q (o :: rest) a w := by
  refine wpList_next_ranges w hg it hop 3 lawI ptrElem (Value.int .i64) mkP (fun key kl hk => by obtain ⟨x, rfl, _⟩ := Maps.keyOf_int_inv Tryz.underlying3 hk; exact ⟨x, rfl⟩)
    (fun v y hv => ptr_inv hv) b r n D left cnt hit h hDone (fun x c kl y w' cnt' hkey hlk hv hat hrg hlt hgr hsz hen => ?_)
  obtain ⟨x', ex, rfl, hwx⟩ := Maps.keyOf_int_inv Tryz.underlying3 hkey
  cases ex
  cases hf : fileAt fs x with
  | none =>
    exfalso
    have h1 := (hD x).2
    rw [hf] at h1
    have e0 := hat (i64L 0)
    have e1 := hat (i64L 1)
    rw [Maps.atKey_of_not_has h1] at e0 e1
    rw [← e1] at e0
    simp [i64L] at e0
  | some f =>
    obtain ⟨hm, rfl⟩ := fileAt_mem hf
    have h1 := (hD f.num).1
    rw [hf, hat] at h1
    simp only at h1
    have e : mkP c = .pointer (some ⟨β f.num, 0, none⟩) := ptrElem_inv (ps := y.2) (by rw [hv, ← h1])
    rw [e] at hen ⊢
    exact hMore f w' cnt' hm hwx hlk hrg hlt hgr hsz hen

/-- The new map of files holds those that have been met. -/
def CopyF (β : Nat → Nat) (D : DataW Unit) (left : Lit → Bool) (N : DataW Unit) : Prop := ∀ k : Int, Maps.has N (.int .i64 k) = (Maps.has D (.int .i64 k) && !left (.int .i64 k)) ∧ (Maps.has N (.int .i64 k) = true → ∀ z, N.atKey (.int .i64 k) z = i64L (β k.toNat))
theorem copyF_start (β : Nat → Nat) (D : DataW Unit) : CopyF β D (Maps.has D) (.map []) := fun k => ⟨by show false = _; cases Maps.has D (.int .i64 k) <;> rfl, fun h => by cases h⟩
theorem copyF_step {β β0 : Nat → Nat} {fs : List Fl} {D N : DataW Unit} {left : Lit → Bool} {f : Fl} {b : Nat} (h : CopyF β D left N) (hN : IsMap N) (hD : FilesD β0 fs D) (hr : fs.Pairwise fun f g => f.num < g.num) (hf : f ∈ fs) :
    CopyF (fun n => if n = f.num then b else β n) D (fun z => left z && !z.sameKey (.int .i64 f.num)) (N.put (.int .i64 f.num) (i64L b)) := by
  intro k
  by_cases hk : (f.num : Int) = k
  · subst hk
    rw [Maps.has_put_same (k := .int .i64 _) hN trivial]
    have hh : Maps.has D (.int .i64 (f.num : Int)) = true := by rw [(hD f.num).2, fileAt_of hr hf]; rfl
    have hs : (Lit.int .i64 (f.num : Int)).sameKey (.int .i64 (f.num : Int)) = true := WideAt.sameKey_self trivial
    refine ⟨by simp only [hh, hs]; simp, fun _ z => ?_⟩
    rw [Maps.atKey_put_same (k := .int .i64 _) hN trivial]
    simp
  · have hne : Lit.int .i64 k ≠ .int .i64 (f.num : Int) := by intro e; injection e with _ e; exact hk e.symm
    rw [Maps.has_put_other hne]
    refine ⟨by rw [(h k).1]; simp only [Maps.sameKey_ne hne]; simp, fun hh z => ?_⟩
    rw [Maps.atKey_put_other hne, (h k).2 hh z]
    have h1 : Maps.has D (.int .i64 k) = true := by
      have := (h k).1
      rw [hh] at this
      cases hx : Maps.has D (.int .i64 k) with
      | true => rfl
      | false => rw [hx] at this; cases this
    rw [(hD k).2] at h1
    obtain ⟨g, hg⟩ := Option.isSome_iff_exists.1 h1
    obtain rfl := (fileAt_mem hg).2
    show i64L (β _) = i64L ((if _ then _ else _ : Nat) : Int)
    rw [if_neg (by simp only [Int.toNat_natCast]; omega)]
theorem copyF_end {β β0 : Nat → Nat} {fs : List Fl} {D N : DataW Unit} {left : Lit → Bool} (h : CopyF β D left N) (hl : ∀ k, left k = false) (hD : FilesD β0 fs D) : FilesD β fs N := by
  intro k
  have h1 := (h k).1
  rw [hl, (hD k).2] at h1
  simp only [Bool.not_false, Bool.and_true] at h1
  cases hf : fileAt fs k with
  | none => rw [hf] at h1; exact ⟨Maps.atKey_of_not_has h1 _, h1⟩
  | some f =>
    rw [hf] at h1
    obtain rfl := (fileAt_mem hf).2
    refine ⟨?_, h1⟩
    rw [(h _).2 h1]
    simp

def gh (β τ : Nat → Nat) : Gh := ⟨0, 0, 0, .slice none 0 0, β, τ⟩
def Met (w : World) (fs : List Fl) (left : Lit → Bool) (β τ : Nat → Nat) : Prop := ∀ g ∈ fs, left (.int .i64 g.num) = false → FileIs w (gh β τ) g
def Marks (w : World) (n0 Rc bf r : Nat) (τ : Nat → Nat) : Prop := ∀ i, τ i ≠ 0 → i < w.heap.size ∧ n0 ≤ i ∧ i ≠ Rc ∧ i ≠ bf ∧ i ≠ r
theorem met_start {w : World} {fs : List Fl} {D : DataW Unit} {β0 : Nat → Nat} (hD : FilesD β0 fs D) (hr : fs.Pairwise fun f g => f.num < g.num) : Met w fs (Maps.has D) (fun _ => 0) (fun _ => 0) := fun g hg hl => by
  rw [(hD g.num).2, fileAt_of hr hg] at hl
  cases hl
theorem marks_start (w : World) (n0 Rc bf r : Nat) : Marks w n0 Rc bf r (fun _ => 0) := fun i hi => absurd rfl hi
theorem met_step {wr w5 : World} {fs : List Fl} {left : Lit → Bool} {β τ : Nat → Nat} {f : Fl} {n0 Rc bf r b' : Nat} {v' : Value}
    (hU : Met wr fs left β τ) (hT : Marks wr n0 Rc bf r τ) (hr : fs.Pairwise fun f g => f.num < g.num) (hf : f ∈ fs)
    (rng : ∀ z ∈ f.bs, 0 ≤ z ∧ z < 256) (len : f.bs.length ≤ 250000) (lst : f.lasts ≤ f.bs.length)
    (hs : wr.heap.size ≤ w5.heap.size) (hk : ∀ i, i < wr.heap.size → i ≠ bf → i ≠ r → w5.heap[i]? = wr.heap[i]?)
    (hn0 : n0 ≤ wr.heap.size) (hRc : Rc < wr.heap.size) (hbf : bf < wr.heap.size) (hrr : r < wr.heap.size)
    (hb : wr.heap.size ≤ b') (hc : w5.heap[b']? = some (.cells #[v', .int .i64 f.lasts] 90 (0, 0))) (hO : Own w5 wr.heap.size v' f.bs) (hne : v'.ownBlock ≠ some b') :
    ∃ τ', Met w5 fs (fun z => left z && !z.sameKey (.int .i64 f.num)) (fun n => if n = f.num then b' else β n) τ' ∧ Marks w5 n0 Rc bf r τ' := by
  have hbl : b' < w5.heap.size := (Array.getElem?_eq_some_iff.1 hc).1
  have hvl : ∀ g, v'.ownBlock = some g → wr.heap.size ≤ g ∧ g < w5.heap.size := fun g hg => World.ownsRow.lt hO g hg
  refine ⟨fun i => if i = b' then 6 + 2 * f.num else if v'.ownBlock = some i then 7 + 2 * f.num else τ i, fun g hg hl => ?_, fun i hi => ?_⟩
  · by_cases e : g.num = f.num
    · have e' : g = f := by
        have h1 := fileAt_of hr hg
        have h2 := fileAt_of hr hf
        rw [e, h2] at h1
        exact (Option.some.inj h1).symm
      subst e'
      refine ⟨⟨v', by simpa [gh] using hc, own_base hO (Nat.zero_le _), fun x hx => ?_⟩, by simp [gh], rng, len, lst⟩
      show (if x = b' then _ else if v'.ownBlock = some x then _ else τ x) = _
      rw [if_neg (fun e => hne (by rw [← e]; exact hx)), if_pos hx]
    · have hl2 : left (.int .i64 g.num) = false := by
        have hs : (Lit.int .i64 (g.num : Int)).sameKey (.int .i64 (f.num : Int)) = false := Maps.sameKey_ne (by intro h; injection h with _ h; omega)
        simp only [hs] at hl
        simpa using hl
      have T : Turn (gh β τ).τ (fun n => n = 0) wr w5 := ⟨hs, fun i hi h0 => hk i hi (hT i h0).2.2.2.1 (hT i h0).2.2.2.2⟩
      refine (file_keep T (hU g hg hl2) (by omega) (by omega)).retag (by show (if g.num = f.num then _ else _) = _; rw [if_neg e]; rfl) fun i hi => ?_
      have h6 : 6 ≤ τ i := hi
      have hil := (hT i (by omega)).1
      show (if i = b' then _ else if v'.ownBlock = some i then _ else τ i) = τ i
      rw [if_neg (by omega), if_neg (fun h => by have := (hvl i h).1; omega)]
  · by_cases e : i = b'
    · subst e
      exact ⟨hbl, by omega, by omega, by omega, by omega⟩
    · by_cases e2 : v'.ownBlock = some i
      · have := hvl i e2
        exact ⟨this.2, by omega, by omega, by omega, by omega⟩
      · simp only [if_neg e, if_neg e2] at hi
        have := hT i hi
        exact ⟨by omega, this.2⟩
theorem row_low {w : World} {B e sz n : Nat} {v : Value} {xs : List Value} (h : w.ownsRow B e sz v n xs) : w.ownsRow 0 e sz v n xs := by
  obtain ⟨hl, ⟨rfl, hn⟩ | ⟨g, cap, cur, rfl, hg, r⟩⟩ := h
  · exact ⟨hl, .inl ⟨rfl, hn⟩⟩
  · exact ⟨hl, .inr ⟨g, cap, cur, rfl, Nat.zero_le _, r⟩⟩
/-- All parts of a copy together. -/
theorem copy_end {w w0 : World} {n0 Rc bf bn bl r c0 : Nat} {S : St} {sv : Value} {N : DataW Unit} {β τ : Nat → Nat}
    (row : w.heap[Rc]? = some (.cells #[.int .i64 S.q, .int .i64 S.calls, .int .i64 S.stop, .int .i64 S.fail, .bool S.dead, .int .i64 S.made, .map (some bf), .map (some bn), .map (some bl), sv] 51 (0, 0)))
    (fm : w.ownsMap Tryz.prog 3 ptrElem bf (Maps.size N) N) (fd : FilesD β S.files N) (fz : Maps.size N ≤ S.calls)
    (nm : w.ownsMap Tryz.prog 9 (plainElem Tryz.prog 3) bn (Maps.size S.names) S.names) (lm : w.ownsMap Tryz.prog 9 (plainElem Tryz.prog 3) bl (Maps.size S.lasting) S.lasting)
    (sc : w.ownsRow c0 76 4 sv S.since.length (S.since.flatMap chCells)) (met : ∀ f ∈ S.files, FileIs w (gh β τ) f) (mk : Marks w0 n0 Rc bf r τ)
    (h1 : n0 ≤ Rc) (h2 : n0 ≤ bf) (h3 : Rc ≠ bf) (h4 : Rc < w0.heap.size) (h5 : bf < w0.heap.size) (h6 : w0.heap.size ≤ bn) (h7 : bn < bl) (h8 : bl < c0) (ok : Ok S) : ∃ G, DiskIs w Rc S G ∧ ∀ i, i < n0 → G.τ i = 0 := by
  have hbl := lm.lt
  have hsv : ∀ g, sv.ownBlock = some g → c0 ≤ g ∧ g < w.heap.size := fun g hg => World.ownsRow.lt sc g hg
  refine ⟨⟨bf, bn, bl, sv, β, fun i => if i = Rc then 1 else if i = bf then 2 else if i = bn then 3 else if i = bl then 4 else if sv.ownBlock = some i then 5 else τ i⟩, ⟨row, ⟨N, fm, fd, fz⟩, nm, lm, row_low sc, ?_, ?_, ?_, ?_, ?_, ?_, ?_, ok⟩, ?_⟩
  · intro f hf
    refine (met f hf).retag rfl fun i hi => ?_
    have h6' : 6 ≤ τ i := hi
    obtain ⟨m1, m2, m3, m4, m5⟩ := mk i (by omega)
    show (if i = Rc then _ else if i = bf then _ else if i = bn then _ else if i = bl then _ else if sv.ownBlock = some i then _ else τ i) = τ i
    rw [if_neg m3, if_neg m4, if_neg (by omega), if_neg (by omega), if_neg (fun h => by have := (hsv i h).1; omega)]
  · exact if_pos rfl
  · show (if bf = Rc then _ else if bf = bf then 2 else _) = 2
    rw [if_neg (Ne.symm h3), if_pos rfl]
  · show (if bn = Rc then _ else if bn = bf then _ else if bn = bn then 3 else _) = 3
    rw [if_neg (by omega), if_neg (by omega), if_pos rfl]
  · show (if bl = Rc then _ else if bl = bf then _ else if bl = bn then _ else if bl = bl then 4 else _) = 4
    rw [if_neg (by omega), if_neg (by omega), if_neg (by omega), if_pos rfl]
  · intro g hg
    have := hsv g hg
    show (if g = Rc then _ else if g = bf then _ else if g = bn then _ else if g = bl then _ else if sv.ownBlock = some g then 5 else _) = 5
    rw [if_neg (by omega), if_neg (by omega), if_neg (by omega), if_neg (by omega), if_pos hg]
  · intro i hi
    show (if i = Rc then _ else if i = bf then _ else if i = bn then _ else if i = bl then _ else if sv.ownBlock = some i then _ else τ i) = 0
    rw [if_neg (by omega), if_neg (by omega), if_neg (by omega), if_neg (by omega), if_neg (fun h => by have := (hsv i h).2; omega)]
    by_cases h : τ i = 0
    · exact h
    · have := (mk i h).1
      omega
  · intro i hi
    show (if i = Rc then _ else if i = bf then _ else if i = bn then _ else if i = bl then _ else if sv.ownBlock = some i then _ else τ i) = 0
    rw [if_neg (by omega), if_neg (by omega), if_neg (by omega), if_neg (by omega), if_neg (fun h => by have := (hsv i h).1; omega)]
    by_cases h : τ i = 0
    · exact h
    · have := (mk i h).2.1
      omega

theorem store_at (R o : Nat) (p q : Int) (w : World) (h0 : w.cell? ⟨R, o, none⟩ = some (.int .i64 p)) (hf : w.frozen? ⟨R, o, none⟩ = false) :
    Calls Tryz.prog 32 #[.pointer (some ⟨R, o, none⟩), .int .i64 q] w fun e w' => e = .returned (.tuple #[]) ∧ w' = w.setCell ⟨R, o, none⟩ (.int .i64 q) := by
  have hst := run_call_store (P := Tryz.prog) Tryz.func60 (by kernel_rfl) (by kernel_rfl) (by kernel_rfl) (by kernel_rfl) (k := .i64) (y := q) h0 hf
  go_enter Tryz.func32, Tryz.ntmps32
  go_wp2
  go_end0
  exact ⟨rfl, rfl⟩

end Go.Proofs.YtfogfpanfhmijaaGreat.Clep

/- What Copy of a Disk does when called (a walk over the translated program): another Disk that stands as this one does, in new memory alone. For any Disk of at most 1000000 calls. -/
namespace Go.Proofs.YtfogfpanfhmijaaGreat.Clep
open Go.RowKit Go.Maps
set_option linter.unusedVariables false

def blank (S : St) (c st fa : Nat) (d : Bool) (m : Nat) : St := ⟨S.q, c, st, fa, d, m, [], .map [], .map [], []⟩
theorem blank_ok {S : St} (h : Ok S) (c st fa : Nat) (d : Bool) (m : Nat) (h1 : st ≤ 9223372036854775807) (h2 : fa ≤ 9223372036854775807) (h3 : m ≤ c) : Ok (blank S c st fa d m) :=
  ⟨List.Pairwise.nil, fun f hf => (by cases hf), fun p hp => (by cases hp), fun p hp => (by cases hp), fun c hc => (by cases hc), Nat.zero_le _, Nat.zero_le _, h3, h.quo, h1, h2⟩
def mkR (Rc : Nat) : Nat → Nat := fun i => if i = Rc then 1 else 0
theorem mkR_ne {Rc i : Nat} (h : i ≠ Rc) : ¬ (mkR Rc i = 1) := by
  unfold mkR
  rw [if_neg h]
  omega
theorem mkR_eq (Rc : Nat) : mkR Rc Rc = 1 := if_pos rfl
theorem gr_of_below {w w' : World} (h : Below w.heap.size w w') : w.grownBy w' none := ⟨h.os, h.tape, h.output, h.size, fun i hi _ => h.block i hi⟩
theorem undrew {w w' : World} (h : Below w.drew.heap.size w.drew w') : Below w.heap.size w w' := ⟨h.os, h.tape, h.output, h.size, h.block⟩
/-- What the loop holds. -/
structure Cpy (w wr : World) (S : St) (D : DataW Unit) (G0 : Gh) (obf n0 Rc r : Nat) (left : Lit → Bool) (cnt : Nat) (N : DataW Unit) (β τ : Nat → Nat) : Prop where
  rng : wr.ranges Tryz.prog 3 ptrElem obf r (Maps.size D) D left cnt
  own : wr.ownsMap Tryz.prog 3 ptrElem G0.bf (Maps.size N) N
  cf : CopyF β D left N
  met : Met wr S.files left β τ
  mrk : Marks wr n0 Rc G0.bf r τ
  sz : Maps.size N + cnt ≤ Maps.size D
  bel : Below n0 w wr
  row : wr.heap[Rc]? = some (.cells (dRow (blank S S.calls S.stop S.fail S.dead S.made) G0) 51 (0, 0))
theorem Cpy.step {w wr w3 w4 w5 : World} {S : St} {D N : DataW Unit} {G0 : Gh} {obf n0 Rc r cnt cnt1 b' : Nat} {left : Lit → Bool} {β τ β0 : Nat → Nat} {f : Fl} {v' : Value} (h : Cpy w wr S D G0 obf n0 Rc r left cnt N β τ) (hD : FilesD β0 S.files D) (hr : S.files.Pairwise fun f g => f.num < g.num) (hf : f ∈ S.files)
    (rng : ∀ z ∈ f.bs, 0 ≤ z ∧ z < 256) (len : f.bs.length ≤ 250000) (lst : f.lasts ≤ f.bs.length) (hn : n0 ≤ w.heap.size) (ho : obf < n0) (hRr : Rc ≠ r) (hRb : Rc ≠ G0.bf) (hRn : n0 ≤ Rc) (hbn : n0 ≤ G0.bf) (hrn : n0 ≤ r) (hrb : r ≠ G0.bf)
    (hrg : w3.ranges Tryz.prog 3 ptrElem obf r (Maps.size D) D (fun z => left z && !z.sameKey (.int .i64 f.num)) cnt1) (hlt : cnt1 < cnt) (g3 : wr.grownBy w3 (some r)) (b4 : Below w3.heap.size w3 w4) (hb : w3.heap.size ≤ b')
    (hc : w4.heap[b']? = some (.cells #[v', .int .i64 f.lasts] 90 (0, 0))) (hO : Own w4 w3.heap.size v' f.bs) (hne : v'.ownBlock ≠ some b')
    (o5 : w5.ownsMap Tryz.prog 3 ptrElem G0.bf (Maps.size N + 1) (N.put (.int .i64 f.num) (i64L b'))) (g5 : w4.grownBy w5 (some G0.bf)) :
    ∃ τ', Cpy w w5 S D G0 obf n0 Rc r (fun z => left z && !z.sameKey (.int .i64 f.num)) cnt1 (N.put (.int .i64 f.num) (i64L b')) (fun n => if n = f.num then b' else β n) τ' := by
  have hRl : Rc < wr.heap.size := (Array.getElem?_eq_some_iff.1 h.row).1
  have hbl := h.own.lt
  have hrl := h.rng.lt
  have s3 := g3.size
  have s4 := b4.size
  have s5 := g5.size
  have hk : ∀ i, i < wr.heap.size → i ≠ G0.bf → i ≠ r → w5.heap[i]? = wr.heap[i]? := fun i hi h1 h2 => by
    rw [g5.block i (by omega) (fun e => h1 (Option.some.inj e)), b4.block i (by omega), g3.block i hi (fun e => h2 (Option.some.inj e))]
  have hc5 : w5.heap[b']? = some (.cells #[v', .int .i64 f.lasts] 90 (0, 0)) := by
    have hl : b' < w4.heap.size := (Array.getElem?_eq_some_iff.1 hc).1
    rw [g5.block b' hl (fun e => by have := Option.some.inj e; omega)]; exact hc
  have hO5 : Own w5 wr.heap.size v' f.bs := by
    refine own_base (owns_keep (τ := fun i => if i = G0.bf then 1 else 0) (t := fun n => n = 1) ⟨s5, fun i hi ht => g5.block i hi (fun e => ht (if_pos (Option.some.inj e)))⟩ hO (fun g hg => ?_)) s3
    have := (World.ownsRow.lt hO g hg).1
    show ¬ ((if g = G0.bf then 1 else 0) = 1)
    rw [if_neg (by omega)]
    omega
  obtain ⟨τ', m1, m2⟩ := met_step h.met h.mrk hr hf rng len lst (by omega) hk (Nat.le_trans (by omega) (Nat.le_refl _)) hRl hbl hrl (by omega) hc5 hO5 hne
  refine ⟨τ', ⟨(hrg.kept (gr_of_below b4) (by simp) (by simp)).kept g5 (fun e => by have := Option.some.inj e; omega) (fun e => hrb (Option.some.inj e)), tight o5, copyF_step h.cf h.own.isMap hD hr hf, m1, m2, ?_, ?_, ?_⟩⟩
  · have hzp := Maps.size_put (h.own.tidy lawI) (k := .int .i64 (f.num : Int)) (i64L b')
    have := h.sz
    split at hzp <;> omega
  · exact ((h.bel.grown g3 (by have := h.bel.size; omega) (fun k hk => by cases hk; exact hrn)).trans (b4.mono (by have := h.bel.size; omega))).grown g5 (by have := h.bel.size; omega) (fun k hk => by cases hk; exact hbn)
  · rw [hk Rc hRl hRb hRr]; exact h.row

theorem Cpy.fin {w wr w6 w7 w9 : World} {S : St} {D N : DataW Unit} {G0 : Gh} {obf n0 Rc r cnt : Nat} {left : Lit → Bool} {β τ β0 : Nat → Nat} {v' : Value} (h : Cpy w wr S D G0 obf n0 Rc r left cnt N β τ) (hl0 : ∀ kl, left kl = false) (hD : FilesD β0 S.files D) (ok : Ok S) (hz : Maps.size D ≤ S.calls)
    (hRn : n0 ≤ Rc) (hbn : n0 ≤ G0.bf) (hRb : Rc ≠ G0.bf) (hn : n0 ≤ w.heap.size) (b6 : Below wr.heap.size wr w6) (o6 : w6.ownsMap Tryz.prog 9 (plainElem Tryz.prog 3) wr.heap.size (Maps.size S.names) S.names)
    (b7 : Below w6.heap.size w6 w7) (o7 : w7.ownsMap Tryz.prog 9 (plainElem Tryz.prog 3) w6.heap.size (Maps.size S.lasting) S.lasting)
    (b9 : Below ((w7.setCell ⟨Rc, 7, none⟩ (.map (some wr.heap.size))).setCell ⟨Rc, 8, none⟩ (.map (some w6.heap.size))).heap.size ((w7.setCell ⟨Rc, 7, none⟩ (.map (some wr.heap.size))).setCell ⟨Rc, 8, none⟩ (.map (some w6.heap.size))) w9)
    (o9 : w9.ownsRow ((w7.setCell ⟨Rc, 7, none⟩ (.map (some wr.heap.size))).setCell ⟨Rc, 8, none⟩ (.map (some w6.heap.size))).heap.size 76 4 v' S.since.length (S.since.flatMap chCells)) :
    ∃ G', DiskIs (w9.setCell ⟨Rc, 9, none⟩ v') Rc S G' ∧ Below n0 w (w9.setCell ⟨Rc, 9, none⟩ v') ∧ ∀ i, i < n0 → G'.τ i = 0 := by
  have hRl : Rc < wr.heap.size := (Array.getElem?_eq_some_iff.1 h.row).1
  have hbl := h.own.lt
  have l6 := o6.lt
  have l7 := o7.lt
  have s6 := b6.size
  have s7 := b7.size
  have r7 := (b7.block Rc (by omega)).trans ((b6.block Rc hRl).trans h.row)
  have r8 := heap_setCell_same _ Rc 8 _ _ (.map (some w6.heap.size)) (heap_setCell_same w7 Rc 7 _ _ (.map (some wr.heap.size)) r7)
  have hRl8 := (Array.getElem?_eq_some_iff.1 r8).1
  have r10 := heap_setCell_same w9 Rc 9 _ _ v' ((b9.block Rc hRl8).trans r8)
  have s8 : ((w7.setCell ⟨Rc, 7, none⟩ (.map (some wr.heap.size))).setCell ⟨Rc, 8, none⟩ (.map (some w6.heap.size))).heap.size = w7.heap.size := by simp
  have T8 : Turn (mkR Rc) (fun n => n = 1) w7 ((w7.setCell ⟨Rc, 7, none⟩ (.map (some wr.heap.size))).setCell ⟨Rc, 8, none⟩ (.map (some w6.heap.size))) := (turn_set _ (mkR_eq Rc)).trans (turn_set _ (mkR_eq Rc))
  have T10 : Turn (mkR Rc) (fun n => n = 1) w9 (w9.setCell ⟨Rc, 9, none⟩ v') := turn_set _ (mkR_eq Rc)
  have T7 := (T8.trans (Turn.of_below b9 _)).trans T10
  have T6 := Turn.trans (Turn.of_below b7 (fun n => n = 1)) T7
  have T := Turn.trans (Turn.of_below b6 (fun n => n = 1)) T6
  have hzN : Maps.size N ≤ S.calls := by have := h.sz; omega
  obtain ⟨G', q1, q2⟩ := copy_end (w := w9.setCell ⟨Rc, 9, none⟩ v') (w0 := wr) (n0 := n0) (r := r) (S := S) (c0 := w7.heap.size) (by rw [r10]; rfl) (map_keep T h.own (mkR_ne (Ne.symm hRb))) (copyF_end h.cf hl0 hD) hzN
    (map_keep T6 o6 (mkR_ne (by omega))) (map_keep T7 o7 (mkR_ne (by omega))) (by rw [s8] at o9; exact owns_keep T10 o9 (fun g hg => mkR_ne (by have := (World.ownsRow.lt o9 g hg).1; omega)))
    (fun f hf => file_keep (G := gh β τ) (t := fun n => n = 0) ⟨T.1, fun i hi h0 => T.2 i hi (mkR_ne (h.mrk i h0).2.2.1)⟩ (h.met f hf (hl0 _)) (by omega) (by omega)) h.mrk hRn hbn hRb hRl hbl (Nat.le_refl _) (by omega) (by omega) ok
  refine ⟨G', q1, ?_, q2⟩
  have hw := h.bel.size
  exact ((((h.bel.trans (b6.mono (by omega))).trans (b7.mono (by omega))).setCell (p := ⟨Rc, 7, none⟩) hRn (.map (some wr.heap.size))).setCell (p := ⟨Rc, 8, none⟩) hRn (.map (some w6.heap.size))).trans (b9.mono (by rw [s8]; omega)) |>.setCell (p := ⟨Rc, 9, none⟩) hRn v'

set_option maxHeartbeats 4000000 in
set_option maxRecDepth 8000 in
theorem copy_any (R : Nat) (S : St) (G : Gh) (w : World) (h : DiskIs w R S G) (hm : S.calls ≤ 1000000) :
    Calls Tryz.prog 9 #[.pointer (some ⟨R, 0, none⟩)] w fun e w' => ∃ Rc G', e = .returned (.pointer (some ⟨Rc, 0, none⟩)) ∧ DiskIs w' Rc S G' ∧ Below w.heap.size w w' ∧ ∀ i, i < w.heap.size → G'.τ i = 0 := by
  have H := hide h
  have c0 := h.cells.1.1
  have NW := hide (new_any S.q w h.ok.quo)
  have hRl := h.lt
  clear h
  go_enter Tryz.func9, Tryz.ntmps9
  go_wp2_with fail
  refine NW.out.mono ?_
  rintro e w1 ⟨Rc, G0, rfl, D1, b1, t1⟩
  have D1' : DiskIs w1.drew Rc (newS S.q) G0 := D1.below (Below.refl _ _).drew
  have B1' : Below w.heap.size w w1.drew := b1.drew
  have E1 := H.out.below B1'
  have hRc : w.heap.size ≤ Rc := by
    rcases Nat.lt_or_ge Rc w.heap.size with h | h
    · have := t1 Rc h
      rw [D1.tR] at this
      cases this
    · exact h
  have hbf : w.heap.size ≤ G0.bf := by
    rcases Nat.lt_or_ge G0.bf w.heap.size with h | h
    · have := t1 _ h
      rw [D1.tf] at this
      cases this
    · exact h
  have hRb : Rc ≠ G0.bf := fun e => by have h1 := D1.tR; have h2 := D1.tf; rw [e, h2] at h1; omega
  have HRC := hide hRc
  have HBF := hide hbf
  have HRB := hide hRb
  have hne : R ≠ Rc := by omega
  have x1 := E1.cells.1.2.1
  have y1 : w1.drew.cell? ⟨Rc, 1, none⟩ = some (.int .i64 0) := D1'.cells.1.2.1
  have LD := hide (load_at R 1 S.calls w1.drew x1)
  have ST := hide (store_at Rc 1 0 S.calls w1.drew y1 (D1'.cells.2.2 1))
  have hok := H.out.ok
  have HD2 := hide ((D1.put (S' := blank S S.calls 0 0 false 0) 1 (.int .i64 S.calls) rfl rfl rfl rfl rfl (Nat.zero_le _) (blank_ok hok _ _ _ _ _ (by omega) (by omega) (Nat.zero_le _))).below (Below.refl _ _).drew)
  have HB2 := hide ((b1.setCell (p := ⟨Rc, 1, none⟩) hRc (.int .i64 S.calls)).drew)
  have OKH := hide hok
  clear D1 D1' B1' E1 b1 t1 x1 y1 NW c0 hok hRc hbf hRb
  go_wp2_with fail
  go_region_with (first
    | (go_at_call 33; refine LD.out.mono ?_; rintro e w2 ⟨rfl, rfl⟩)
    | (go_at_call 32; refine ST.out.mono ?_; rintro e w3 ⟨rfl, rfl⟩))
  clear LD ST
  generalize (w1.setCell ⟨Rc, 1, none⟩ (.int .i64 S.calls)).drew = w2 at *
  have E2 := H.out.below HB2.out
  have a2 := E2.cells.1.2.2.1
  have a3 := E2.cells.1.2.2.2.1
  have a4 := E2.cells.1.2.2.2.2
  have y2 : w2.cell? ⟨Rc, 2, none⟩ = some (.int .i64 0) := HD2.out.cells.1.2.2.1
  have y3 : w2.cell? ⟨Rc, 3, none⟩ = some (.int .i64 0) := HD2.out.cells.1.2.2.2.1
  have y4 : w2.cell? ⟨Rc, 4, none⟩ = some (.bool false) := HD2.out.cells.1.2.2.2.2
  have f2 := HD2.out.cells.2.2 2
  have f3 := HD2.out.cells.2.2 3
  have f4 := HD2.out.cells.2.2 4
  have D2d := HD2.out
  have D3a := D2d.put (S' := blank S S.calls S.stop 0 false 0) 2 (.int .i64 S.stop) rfl rfl rfl rfl rfl (Nat.le_refl _) (blank_ok OKH.out _ _ _ _ _ OKH.out.stp (by omega) (Nat.zero_le _))
  have D3b := D3a.put (S' := blank S S.calls S.stop S.fail false 0) 3 (.int .i64 S.fail) rfl rfl rfl rfl rfl (Nat.le_refl _) (blank_ok OKH.out _ _ _ _ _ OKH.out.stp OKH.out.fai (Nat.zero_le _))
  have HD3 := hide ((D3b.put (S' := blank S S.calls S.stop S.fail S.dead 0) 4 (.bool S.dead) rfl rfl rfl rfl rfl (Nat.le_refl _) (blank_ok OKH.out _ _ _ _ _ OKH.out.stp OKH.out.fai (Nat.zero_le _))).below (Below.refl _ _).drew)
  have HB3 := hide ((((HB2.out.setCell (p := ⟨Rc, 2, none⟩) HRC.out (.int .i64 S.stop)).setCell (p := ⟨Rc, 3, none⟩) HRC.out (.int .i64 S.fail)).setCell (p := ⟨Rc, 4, none⟩) HRC.out (.bool S.dead)).drew)
  clear E2 D2d D3a D3b HD2 HB2
  go_wp2_with fail
  go_region
  generalize (((w2.setCell ⟨Rc, 2, none⟩ (.int .i64 S.stop)).setCell ⟨Rc, 3, none⟩ (.int .i64 S.fail)).setCell ⟨Rc, 4, none⟩ (.bool S.dead)).drew = w3 at *
  clear a2 a3 a4 y2 y3 y4 f2 f3 f4
  have E3 := H.out.below HB3.out
  have a5 := E3.cells.2.1.1
  have y5 : w3.cell? ⟨Rc, 5, none⟩ = some (.int .i64 0) := HD3.out.cells.2.1.1
  have f5 := HD3.out.cells.2.2 5
  have HD4 := hide (HD3.out.put (S' := blank S S.calls S.stop S.fail S.dead S.made) 5 (.int .i64 S.made) rfl rfl rfl rfl rfl (Nat.le_refl _) (blank_ok OKH.out _ _ _ _ _ OKH.out.stp OKH.out.fai OKH.out.mad))
  have HB4 := hide (HB3.out.setCell (p := ⟨Rc, 5, none⟩) HRC.out (.int .i64 S.made))
  have E4 := H.out.below HB4.out
  have a6 := E4.cells.2.1.2.1
  obtain ⟨D, fm, fd, fz⟩ := E4.fm
  have HFM := hide fm
  have HFD := hide fd
  have HFZ := hide fz
  clear E3 E4 HD3 HB3 fm fd fz
  go_wp2_with (first
    | (at_range; refine wpList_range_own _ rfl _ 41 rfl 3 71 lawI Tryz.underlying41 _ G.bf _ _ rfl HFM.out ?_; intro w0 hrg0 hg0 hs0)
    | fail)
  generalize w3.setCell ⟨Rc, 5, none⟩ (.int .i64 S.made) = w4 at *
  clear a5 a6 y5 f5
  have hR4 := HD4.out.lt
  obtain ⟨D', fm', fd', _⟩ := HD4.out.fm
  have hb4 := fm'.lt
  have hD' : D' = .map [] := by
    obtain ⟨es, rfl, _, hk⟩ := int_keys fm'
    cases es with
    | nil => rfl
    | cons p r =>
      exfalso
      obtain ⟨x, hx⟩ := hk p List.mem_cons_self
      have hs : (Lit.int .i64 x).sameKey (.int .i64 x) = true := WideAt.sameKey_self trivial
      have := (fd' x).2
      rw [Maps.has_eq, List.any_cons, hx, hs] at this
      cases this
  subst hD'
  have HC0 := hide (show Cpy w w0 S D G0 G.bf w.heap.size Rc w4.heap.size (Maps.has D) (Maps.size D) (.map []) (fun _ => 0) (fun _ => 0) from
    ⟨hrg0, fm'.kept hg0 (by simp), copyF_start _ _, met_start HFD.out OKH.out.rise, marks_start _ _ _ _ _, by show 0 + _ ≤ _; omega, HB4.out.grown hg0 HB4.out.size (fun k hk => by cases hk), by rw [hg0.block Rc hR4 (by simp)]; exact HD4.out.row⟩)
  have hbl4 := HB4.out.size
  have HSZ := hide (show w.heap.size ≤ w4.heap.size ∧ Rc < w4.heap.size ∧ G0.bf < w4.heap.size ∧ G.bf < w.heap.size ∧ w0.heap.size = w4.heap.size + 1 from ⟨hbl4, hR4, hb4, by obtain ⟨_, q, _⟩ := H.out.fm; exact q.lt, hs0⟩)
  clear hrg0 hg0 hs0 HFM fm' fd' HD4 HB4 hR4 hb4 hbl4
  generalize w4.heap.size = r at *
  go_frame
  go_loopw [4] (fun _ wr => ∃ (left : Lit → Bool) (cnt : Nat) (N : DataW Unit) (β τ : Nat → Nat), Hid (Cpy w wr S D G0 G.bf w.heap.size Rc r left cnt N β τ)) (fun _ wr => wr.rangeLeft G.bf r)
  case atStart => exact ⟨_, _, _, _, _, HC0⟩
  case round =>
    obtain ⟨left, cnt, N, β, τ, hC⟩ := hrel
    go_wp2_with (first
      | (at_next; refine next_if _ rfl _ rfl G.bf r _ _ _ _ _ _ HFD.out rfl hC.out.rng ?_ ?_)
      | fail)
    · intro _ hl0
      have E := H.out.below hC.out.bel
      have a7 := E.cells.2.1.2.2.1
      have a8 := E.cells.2.1.2.2.2.1
      obtain ⟨so, sc, hsv, _⟩ := row_slice E.sc
      have CN := hide (clone_any G.bn _ S.names wr.drew E.nm)
      have hRw : Rc < wr.heap.size := (Array.getElem?_eq_some_iff.1 hC.out.row).1
      have K8 := hide (show ∀ w6, Below wr.drew.heap.size wr.drew w6 → w6.cell? ⟨R, 8, none⟩ = some (.map (some G.bl)) ∧ Calls Tryz.prog 35 #[.map (some G.bl)] w6 (fun e w' => e = .returned (.map (some w6.heap.size)) ∧ w'.ownsMap Tryz.prog 9 (plainElem Tryz.prog 3) w6.heap.size (Maps.size S.lasting) S.lasting ∧ Below w6.heap.size w6 w') from
        fun w6 b6 => ⟨(E.below (w' := w6) (undrew b6)).cells.2.1.2.2.2.1, clone_any G.bl _ S.lasting w6 (E.below (w' := w6) (undrew b6)).lm⟩)
      have K7 := hide (show ∀ w7, Below wr.drew.heap.size wr.drew w7 → w7.cell? ⟨Rc, 7, none⟩ = some (.map (some G0.bn)) ∧ w7.cell? ⟨Rc, 8, none⟩ = some (.map (some G0.bl)) ∧ w7.frozen? ⟨Rc, 7, none⟩ = false ∧ w7.frozen? ⟨Rc, 8, none⟩ = false from fun w7 b7 => by
        have r7 := (b7.block Rc hRw).trans hC.out.row
        exact ⟨cell_of r7 rfl, cell_of r7 rfl, frozen_of_row w7 Rc 7 _ _ r7, frozen_of_row w7 Rc 8 _ _ r7⟩)
      have K9 := hide (show ∀ w7 u v, Below wr.drew.heap.size wr.drew w7 → ((w7.setCell ⟨Rc, 7, none⟩ u).setCell ⟨Rc, 8, none⟩ v).cell? ⟨R, 9, none⟩ = some (.slice so S.since.length sc) ∧ Calls Tryz.prog 36 #[.slice so S.since.length sc] ((w7.setCell ⟨Rc, 7, none⟩ u).setCell ⟨Rc, 8, none⟩ v) (fun e w' => ∃ so' sc', e = .returned (.slice so' S.since.length sc') ∧ w'.ownsRow ((w7.setCell ⟨Rc, 7, none⟩ u).setCell ⟨Rc, 8, none⟩ v).heap.size 76 4 (.slice so' S.since.length sc') S.since.length (S.since.flatMap chCells) ∧ Below ((w7.setCell ⟨Rc, 7, none⟩ u).setCell ⟨Rc, 8, none⟩ v).heap.size ((w7.setCell ⟨Rc, 7, none⟩ u).setCell ⟨Rc, 8, none⟩ v) w' ∧ w'.cell? ⟨Rc, 9, none⟩ = some G0.sv ∧ w'.frozen? ⟨Rc, 9, none⟩ = false) from fun w7 u v b7 => by
        have B8 : Below w.heap.size w ((w7.setCell ⟨Rc, 7, none⟩ u).setCell ⟨Rc, 8, none⟩ v) := ((hC.out.bel.trans ((Below.drew (Below.refl _ _)).trans (b7.mono hC.out.bel.size))).setCell (p := ⟨Rc, 7, none⟩) HRC.out u).setCell (p := ⟨Rc, 8, none⟩) HRC.out v
        have E8 := H.out.below B8
        have r7 := (b7.block Rc hRw).trans hC.out.row
        have r8 := heap_setCell_same _ Rc 8 _ _ v (heap_setCell_same w7 Rc 7 _ _ u r7)
        have hRl8 := (Array.getElem?_eq_some_iff.1 r8).1
        have hsc := E8.sc
        have h9 := E8.cells.2.1.2.2.2.2
        rw [hsv] at hsc h9
        refine ⟨h9, (sclone_any _ S.since _ hsc (by have := OKH.out.szl; omega)).mono ?_⟩
        rintro e w9 ⟨v', rfl, o9, b9⟩
        obtain ⟨so', sc', rfl, _⟩ := row_slice o9
        have r9 := (b9.block Rc hRl8).trans r8
        exact ⟨so', sc', rfl, o9, b9, cell_of r9 (by simp [dRow]), frozen_of_row w9 Rc 9 _ _ r9⟩)
      have FIN := hide (fun w6 w7 w9 v' b6 o6 b7 o7 b9 o9 => hC.out.fin (w6 := w6) (w7 := w7) (w9 := w9) (v' := v') hl0 HFD.out OKH.out HFZ.out HRC.out HBF.out HRB.out (Nat.le_refl _) b6 o6 b7 o7 b9 o9)
      clear E hsv hRw
      go_wp2_with fail
      go_region_with (first
        | (go_at_call 35; refine CN.out.mono ?_; rintro e w6 ⟨rfl, o6, b6⟩; obtain ⟨k8, c8⟩ := K8.out w6 b6)
        | (go_at_call 35; refine c8.mono ?_; rintro e w7 ⟨rfl, o7, b7⟩; obtain ⟨z7, z8, g7, g8⟩ := K7.out w7 (b6.trans (b7.mono b6.size))))
      all_goals
        obtain ⟨k9, c9⟩ := K9.out w7 (.map (some wr.heap.size)) (.map (some w6.heap.size)) (b6.trans (b7.mono b6.size))
        have C9 := hide c9
        have F9 := hide (fun w9 v' b9 o9 => FIN.out w6 w7 w9 v' (undrew b6) o6 b7 o7 b9 o9)
        clear c9 c8 o6 o7 b6 b7 k8 z7 z8 g7 g8 a7 a8
        generalize (w7.setCell ⟨Rc, 7, none⟩ (.map (some wr.heap.size))).setCell ⟨Rc, 8, none⟩ (.map (some w6.heap.size)) = w8 at *
        go_wp2_with fail
        refine C9.out.mono ?_
        rintro e w9 ⟨so', sc', rfl, o9, b9, z9, g9⟩
        have FF := hide (F9.out w9 _ b9 o9)
        clear o9 b9 F9 C9
        go_wp2
        go_ret
        obtain ⟨G', q1, q2, q3⟩ := FF.out
        exact ⟨Rc, G', rfl, q1, q2, q3⟩
    · intro f w5 cnt1 hf hwf hlk hrg1 hlt hg1 hs1 hen
      have hrw := hC.out.rng.lt
      have hRw : Rc < wr.heap.size := (Array.getElem?_eq_some_iff.1 hC.out.row).1
      have hRr : Rc ≠ r := by have := HSZ.out.2.1; omega
      have hrb : r ≠ G0.bf := by have := HSZ.out.2.2.1; omega
      have hrn : w.heap.size ≤ r := HSZ.out.1
      have B5 : Below w.heap.size w w5 := hC.out.bel.grown hg1 hC.out.bel.size (fun k hk => by cases hk; exact hrn)
      have E := H.out.below B5
      have F := E.files f hf
      obtain ⟨v, p1, p2, p3⟩ := F.lies
      have FC := hide (fcopy_any (G.β f.num) v f.bs f.lasts w5.drew p1 p2 F.rng F.len)
      have row5 : w5.heap[Rc]? = some (.cells (dRow (blank S S.calls S.stop S.fail S.dead S.made) G0) 51 (0, 0)) := by rw [hg1.block Rc hRw (fun e => hRr (Option.some.inj e))]; exact hC.out.row
      have x6 : w5.cell? ⟨Rc, 6, none⟩ = some (.map (some G0.bf)) := cell_of row5 rfl
      have own5 := hC.out.own.kept hg1 (fun e => hrb (Option.some.inj e).symm)
      have hzN : Maps.size N < maxLen := by have h1 := hC.out.sz; have h2 := HFZ.out; unfold maxLen; omega
      have UP := hide (show ∀ w6 b', Below w5.drew.heap.size w5.drew w6 → w6.cell? ⟨Rc, 6, none⟩ = some (.map (some G0.bf)) ∧ ∃ w7, (Instr.mapUpdate 41 (.map (some G0.bf)) (.int .i64 f.num) (.pointer (some ⟨b', 0, none⟩))).run Tryz.prog w6 = .ok () w7 ∧ w7.ownsMap Tryz.prog 3 ptrElem G0.bf (Maps.size N + 1) (N.put (.int .i64 f.num) (i64L b')) ∧ w6.grownBy w7 (some G0.bf) from fun w6 b' b6 =>
        ⟨cell_of ((b6.block Rc (by show Rc < w5.heap.size; omega)).trans row5) rfl, World.ownsMap.update (w := w6) (own5.kept (gr_of_below (undrew b6)) (by simp)) lawI Tryz.underlying41 hzN (keyOf_int_mk Tryz.underlying3 hwf) (ptrElem_mk b')⟩)
      have STP := hide (fun w6 w7 b' v' (b6 : Below w5.drew.heap.size w5.drew w6) hb hc hO hne o7 g7 => hC.out.step (w3 := w5) (w4 := w6) (w5 := w7) (b' := b') (v' := v') HFD.out OKH.out.rise hf F.rng F.len F.lst (Nat.le_refl _) HSZ.out.2.2.2.1 hRr HRB.out HRC.out HBF.out hrn hrb hrg1 hlt hg1 ⟨b6.os, b6.tape, b6.output, b6.size, b6.block⟩ hb hc hO hne o7 g7)
      have HLT := hide hlt
      clear hrw hRw hRr hrb B5 E F p1 p2 p3 row5 own5 hzN hrg1 hlt hg1 hs1 hf hlk
      go_wp2_with fail
      go_region_with (first
        | (go_at_call 34; refine FC.out.mono ?_; rintro e w6 ⟨b', v', rfl, q1, q2, q3, q4, q5⟩; obtain ⟨k6, w7, hrun, o7, g7⟩ := UP.out w6 b' q5))
      all_goals
        obtain ⟨τ', C7⟩ := STP.out w6 w7 b' v' q5 q1 q2 q3 q4 o7 g7
        have HC7 := hide C7
        clear C7 q1 q2 q3 q4 q5 hrun o7 g7 k6
        go_roundw
        case rel =>
          first
            | exact ⟨_, _, _, _, τ', HC7⟩
            | ((repeat apply Exists.intro); exact ⟨⟨_, _, _, _, τ', HC7⟩, rfl⟩)
        case measure =>
          rw [HC7.out.rng.left_eq, hC.out.rng.left_eq]
          exact HLT.out

end Go.Proofs.YtfogfpanfhmijaaGreat.Clep
