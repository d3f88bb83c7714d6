/- What find and size of a Disk do when called (walks over the translated program): for any Disk and any name. No conditions. -/
import Derived.Test.YthmfkfiblaamfabDLow
import Derived.Deep.QuietTactic
import Derived.BigQuiet
namespace Go.Proofs.Ythmfkfiblaamfab.Clep
open Go.RowKit Go.Maps
set_option linter.unusedVariables false

theorem lawS : Keyed Try.prog 9 := string_keyed Try.underlying9
theorem lawI : Keyed Try.prog 3 := int_keyed Try.underlying3
theorem zeroI (w : World) : (zeroValue 3).run Try.prog w = .ok (.int .i64 0) w := by kernel_rfl
theorem zeroP (w : World) : (zeroValue 59).run Try.prog w = .ok (.pointer none) w := by kernel_rfl
theorem key_str {s : ByteArray} (h : s.size ≤ 70368744177664) : keyOf Try.prog 9 (.string s) = some (key s) := Go.WideMaps.keyOf_string_mk Try.underlying9 (by unfold maxLen; omega)

/-- The cells of a Disk's own block. -/
theorem DiskIs.cells {w : World} {R : Nat} {S : St} {G : Gh} (h : DiskIs w R S G) :
    (w.cell? ⟨R, 0, none⟩ = some (.int .i64 S.q) ∧ w.cell? ⟨R, 1, none⟩ = some (.int .i64 S.calls) ∧ w.cell? ⟨R, 2, none⟩ = some (.int .i64 S.stop) ∧ w.cell? ⟨R, 3, none⟩ = some (.int .i64 S.fail) ∧ w.cell? ⟨R, 4, none⟩ = some (.bool S.dead)) ∧
    (w.cell? ⟨R, 5, none⟩ = some (.int .i64 S.made) ∧ w.cell? ⟨R, 6, none⟩ = some (.map (some G.bf)) ∧ w.cell? ⟨R, 7, none⟩ = some (.map (some G.bn)) ∧ w.cell? ⟨R, 8, none⟩ = some (.map (some G.bl)) ∧ w.cell? ⟨R, 9, none⟩ = some G.sv) ∧
    ∀ i, w.frozen? ⟨R, i, none⟩ = false := by
  refine ⟨⟨?_, ?_, ?_, ?_, ?_⟩, ⟨?_, ?_, ?_, ?_, ?_⟩, fun i => frozen_of_row w R i _ _ h.row⟩ <;> simp [World.cell?, h.row, dRow]

/-- Where a name's file lies. -/
def ptrOf (G : Gh) : Option Fl → Value
  | some f => .pointer (some ⟨G.β f.num, 0, none⟩)
  | none => .pointer none
theorem look_name {w : World} {b n : Nat} {D : DataW Unit} (h : w.ownsMap Try.prog 9 (plainElem Try.prog 3) b n D) {s : ByteArray} (hs : s.size ≤ 70368744177664) (c : Bool) :
    (Instr.lookup 49 (.map (some b)) (.string s) false).run Try.prog w = .ok (.int .i64 (lk D s)) w ∧ (Lit.int .i64 (lk D s)).wf = true ∧ D.atKey (key s) (i64L 0) = i64L (lk D s) := by
  obtain ⟨c, h1, h2, h3⟩ := h.lookup_int lawS Try.underlying49 Try.underlying3 (zeroI w) (key_str hs)
  have e : lk D s = c := by unfold lk; rw [show i64L 0 = .lit (.int .i64 0) from rfl, h2]; rfl
  rw [e]
  exact ⟨h1, h3, h2⟩
theorem look_file {w : World} {b n : Nat} {D : DataW Unit} {β : Nat → Nat} {fs : List Fl} (G : Gh) (hG : G.β = β) (h : w.ownsMap Try.prog 3 ptrElem b n D) (hD : FilesD β fs D) {k : Int} (hk : (Lit.int .i64 k).wf = true) :
    (Instr.lookup 47 (.map (some b)) (.int .i64 k) false).run Try.prog w = .ok (ptrOf G (fileAt fs k)) w := by
  obtain ⟨v, ps, h1, h2⟩ := h.lookup lawI Try.underlying47 (zeroP w) ptrElem_nil (keyOf_int_mk Try.underlying3 hk)
  rw [(hD k).1] at h2
  rw [h1]
  cases hf : fileAt fs k with
  | none => rw [hf] at h2; rw [ptrElem_nil_inv h2]; rfl
  | some f => rw [hf] at h2; rw [ptrElem_inv h2, ← hG]; rfl

theorem find_any (R : Nat) (S : St) (G : Gh) (s : ByteArray) (w : World) (h : DiskIs w R S G) (hs : s.size ≤ 70368744177664) :
    Calls Try.prog 26 #[.pointer (some ⟨R, 0, none⟩), .string s] w fun e w' => e = .returned (ptrOf G (fileAt S.files (lk S.names s))) ∧ ∃ n, w' = w.drewN n := by
  obtain ⟨D, f1, f2, f3⟩ := h.fm
  obtain ⟨⟨c0, c1, c2, c3, c4⟩, ⟨c5, c6, c7, c8, c9⟩, fr⟩ := h.cells
  have l1 : ∀ n, (Instr.lookup 49 (.map (some G.bn)) (.string s) false).run Try.prog (w.drewN n) = .ok (.int .i64 (lk S.names s)) (w.drewN n) := fun n => (look_name (w := w.drewN n) h.nm hs false).1
  have hw := (look_name h.nm hs false).2.1
  have l2 : ∀ n, (Instr.lookup 47 (.map (some G.bf)) (.int .i64 (lk S.names s)) false).run Try.prog (w.drewN n) = .ok (ptrOf G (fileAt S.files (lk S.names s))) (w.drewN n) := fun n => look_file (w := w.drewN n) G rfl f1 f2 hw
  clear f1 f2 f3 h c0 c1 c2 c3 c4 c5 c8 c9 fr hw
  go_enter Try.func26, Try.ntmps26
  go_wp2
  go_quiet (fail)
  go_wp2
  go_ret
  exact ⟨rfl, _, rfl⟩

theorem drewN_below (w : World) (n : Nat) : Below w.heap.size w (w.drewN n) := ⟨rfl, rfl, rfl, Nat.le_refl _, fun _ _ => rfl⟩
theorem find_disk (R : Nat) (S : St) (G : Gh) (s : ByteArray) (w : World) (h : DiskIs w R S G) (hs : s.size ≤ 70368744177664) :
    Calls Try.prog 26 #[.pointer (some ⟨R, 0, none⟩), .string s] w fun e w' => e = .returned (ptrOf G (fileAt S.files (lk S.names s))) ∧ Below w.heap.size w w' := by
  refine (find_any R S G s w h hs).mono ?_
  rintro e w' ⟨rfl, n, rfl⟩
  exact ⟨rfl, drewN_below w n⟩

/-- THE STEP of a range over a map from texts to numbers. -/
theorem next_si (w : World) {ops : Array Oper} {rest : List Oper} {o : Oper} {a : Act} {Q : Exit → Act → World → Prop} (hg : o.guard = none) (it : Operand) (hop : o.op = Op.next it false)
    (b r n : Nat) (D : DataW Unit) (left : Lit → Bool) (cnt : Nat) (hit : a.eval it = .pointer (some ⟨r, 0, none⟩)) (h : w.ranges Try.prog 9 (plainElem Try.prog 3) b r n D left cnt)
    (hDone : cnt = 0 → (∀ kl, left kl = false) → wpList Try.prog ops Q rest (a.put o.dst (.tuple #[.bool false])) w)
    (hMore : ∀ (x : ByteArray) (c : Int) (w' : World) (cnt' : Nat), (Lit.int .i64 c).wf = true → left (key x) = true → (∀ zd, D.atKey (key x) zd = i64L c) → w'.ranges Try.prog 9 (plainElem Try.prog 3) b r n D (fun z => left z && !z.sameKey (key x)) cnt' → cnt' < cnt →
      w.grownBy w' (some r) → w'.heap.size = w.heap.size → (Instr.entry (.pointer (some ⟨r, 0, none⟩))).run Try.prog w' = .ok (.tuple #[.string x, .int .i64 c]) w' → wpList Try.prog ops Q rest (a.put o.dst (.tuple #[.bool true, .string x, .int .i64 c])) w') :
    wpList Try.prog ops Q (o :: rest) a w := by
  have inv : ∀ k kl, keyOf Try.prog 9 k = some kl → ∃ x : ByteArray, k = .string x ∧ kl = key x := by
    intro k kl hk
    cases k <;> simp [keyOf, Try.underlying9, mapKey] at hk
    exact ⟨_, rfl, hk.2.symm⟩
  refine wpList_next_ranges w hg it hop 9 lawS (plainElem Try.prog 3) Value.string (Value.int .i64) (fun k kl hk => by obtain ⟨x, rfl, _⟩ := inv k kl hk; exact ⟨x, rfl⟩)
    (fun v y hv => by obtain ⟨c, rfl, _⟩ := plainElem_int_inv Try.underlying3 hv; exact ⟨c, rfl⟩) b r n D left cnt hit h hDone (fun x c kl y w' cnt' hkey hlk hv hat hrg hlt hgr hsz hen => ?_)
  obtain ⟨x', ex, rfl⟩ := inv _ kl hkey
  cases ex
  obtain ⟨c', ec, rfl, hwc⟩ := plainElem_int_inv Try.underlying3 hv
  cases ec
  exact hMore x c w' cnt' hwc hlk hat hrg hlt hgr hsz hen

def flen (fs : List Fl) (n : Int) : Nat := match fileAt fs n with | some f => f.bs.length | none => 0
/-- How many bytes those files have together whose names have been met. -/
def upto (fs : List Fl) (D : DataW Unit) (left : Lit → Bool) : Nat := (((entries D).filter fun p => !left p.1).map fun p => flen fs (numOf p.2)).sum
def usedS (S : St) : Nat := ((entries S.names).map fun p => flen S.files (numOf p.2)).sum
theorem upto_start (fs : List Fl) (D : DataW Unit) (hc : Canon D) : upto fs D (Maps.has D) = 0 := by
  obtain ⟨es, rfl, _, hk⟩ := hc
  unfold upto
  rw [List.filter_eq_nil_iff.2]
  · rfl
  · intro p hp
    simp only [entries] at hp
    simp only [Maps.has_eq, Bool.not_eq_true', Bool.not_eq_false, List.any_eq_true]
    exact ⟨p, hp, WideAt.sameKey_self (hk p hp)⟩
theorem upto_end (S : St) (left : Lit → Bool) (h : ∀ k, left k = false) : upto S.files S.names left = usedS S := by
  unfold upto usedS
  rw [List.filter_eq_self.2]
  intro p _
  simp [h]
theorem sum_step (g : Lit × DataW Unit → Nat) (left : Lit → Bool) (k : Lit) (hk : left k = true) (p0 : Lit × DataW Unit) (h0 : p0.1 = k) (hK : WideAt.IsKeyLit k) : ∀ es : List (Lit × DataW Unit), es.Pairwise (fun p q => p.1 ≠ q.1) → p0 ∈ es →
    ((es.filter fun p => !(left p.1 && !p.1.sameKey k)).map g).sum = ((es.filter fun p => !left p.1).map g).sum + g p0
  | [], _, h => by cases h
  | x :: r, hp, h => by
    rw [List.pairwise_cons] at hp
    by_cases hx : x.1 = k
    · have e0 : x = p0 := by
        rcases List.mem_cons.1 h with h | h
        · exact h.symm
        · exact absurd (hx.trans h0.symm) (hp.1 p0 h)
      have er : (r.filter fun p => !(left p.1 && !p.1.sameKey k)) = r.filter fun p => !left p.1 := by
        refine List.filter_congr fun p hp' => ?_
        have : p.1.sameKey k = false := Maps.sameKey_ne (fun e => hp.1 p hp' (hx.trans e.symm))
        simp [this]
      rw [List.filter_cons_of_pos (by rw [hx, WideAt.sameKey_self hK]; simp), List.filter_cons_of_neg (by rw [hx, hk]; simp), er, e0]
      simp
      omega
    · have hr : p0 ∈ r := by
        rcases List.mem_cons.1 h with h | h
        · exact absurd (by rw [← h]; exact h0) hx
        · exact h
      have ih := sum_step g left k hk p0 h0 hK r hp.2 hr
      have hs : x.1.sameKey k = false := Maps.sameKey_ne hx
      by_cases hl : left x.1 = true
      · rw [List.filter_cons_of_neg (by rw [hl, hs]; simp), List.filter_cons_of_neg (by rw [hl]; simp), ih]
      · rw [List.filter_cons_of_pos (by rw [Bool.not_eq_true] at hl; rw [hl]; simp), List.filter_cons_of_pos (by rw [Bool.not_eq_true] at hl; rw [hl]; simp), List.map_cons, List.map_cons, List.sum_cons, List.sum_cons, ih]
        omega
theorem entry_of {D : DataW Unit} {k : Lit} {y : DataW Unit} (hc : Canon D) (hat : ∀ zd, D.atKey k zd = y) : ∃ p ∈ entries D, p.1 = k ∧ p.2 = y := by
  obtain ⟨es, rfl, _, _⟩ := hc
  simp only [DataW.atKey] at hat
  cases hf : es.find? (fun p => p.1.sameKey k) with
  | none => rw [hf] at hat; have h1 := hat (i64L 0); have h2 := hat (i64L 1); simp only at h1 h2; rw [← h2] at h1; cases h1
  | some p => rw [hf] at hat; exact ⟨p, List.mem_of_find?_eq_some hf, WideAt.sameKey_eq (by have := List.find?_some hf; exact this), hat (i64L 0)⟩
theorem upto_step (fs : List Fl) (D : DataW Unit) (left : Lit → Bool) (k : Lit) (c : Int) (hc : Canon D) (hK : WideAt.IsKeyLit k) (hk : left k = true) (hat : ∀ zd, D.atKey k zd = i64L c) :
    upto fs D (fun z => left z && !z.sameKey k) = upto fs D left + flen fs c := by
  obtain ⟨p, hp, h1, h2⟩ := entry_of hc hat
  obtain ⟨es, rfl, hr, _⟩ := hc
  have := sum_step (fun p => flen fs (numOf p.2)) left k hk p h1 hK es (Maps.apart_of_rising hr) hp
  unfold upto
  simp only [entries]
  rw [this, h2]
  rfl
theorem flen_le {w : World} {R : Nat} {S : St} {G : Gh} (h : DiskIs w R S G) (n : Int) : flen S.files n ≤ 250000 := by
  unfold flen
  cases hf : fileAt S.files n with
  | none => simp
  | some f => exact (h.files f (List.mem_of_find?_eq_some hf)).len
theorem sum_le (g : Lit × DataW Unit → Nat) (B : Nat) (hg : ∀ p, g p ≤ B) : ∀ es : List (Lit × DataW Unit), (es.map g).sum ≤ es.length * B
  | [] => by simp
  | x :: r => by
    have := sum_le g B hg r
    have := hg x
    simp only [List.map_cons, List.sum_cons, List.length_cons, Nat.add_mul]
    omega
theorem upto_le {w : World} {R : Nat} {S : St} {G : Gh} (h : DiskIs w R S G) (left : Lit → Bool) : upto S.files S.names left ≤ S.calls * 250000 := by
  obtain ⟨es, he⟩ := h.nm.isMap
  have h1 := sum_le (fun p => flen S.files (numOf p.2)) 250000 (fun p => flen_le h _) ((entries S.names).filter fun p => !left p.1)
  have h2 := List.length_filter_le (fun p => !left p.1) (entries S.names)
  have h3 := h.ok.szn
  rw [he] at h1 h2 h3 ⊢
  rw [Maps.size_eq] at h3
  simp only [entries] at h1 h2
  unfold upto
  simp only [entries]
  have h4 : (es.filter fun p => !left p.1).length * 250000 ≤ S.calls * 250000 := Nat.mul_le_mul_right _ (Nat.le_trans h2 h3)
  exact Nat.le_trans h1 h4

end Go.Proofs.Ythmfkfiblaamfab.Clep
