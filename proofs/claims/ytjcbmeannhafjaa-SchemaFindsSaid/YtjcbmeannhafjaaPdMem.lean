
/- Predicates args trees, and in memory. -/
import Derived.Test.YtjcbmeannhafjaaRow

namespace Go.Proofs.Ytjcbmeannhafjaa

open Go.RowKit

/-- An operand. -/
structure Od where
  k : Int
  i : Int
  v : V
/-- A predicate. -/
inductive PT where
  | mk (op cmp : Int) (l r : Od) (args : List PT)
namespace PT
def op : PT → Int | .mk o _ _ _ _ => o
def cmp : PT → Int | .mk _ c _ _ _ => c
def l : PT → Od | .mk _ _ l _ _ => l
def r : PT → Od | .mk _ _ _ r _ => r
def args : PT → List PT | .mk _ _ _ _ a => a
theorem eta (p : PT) : PT.mk p.op p.cmp p.l p.r p.args = p := by cases p; rfl
end PT
mutual
def PT.depth : PT → Nat
  | .mk _ _ _ _ args => depthP args + 1
def depthP : List PT → Nat
  | [] => 0
  | p :: t => max p.depth (depthP t)
end
theorem depthP_get {ps : List PT} {j : Nat} (hj : j < ps.length) : ps[j].depth ≤ depthP ps := by
  induction ps generalizing j with
  | nil => simp at hj
  | cons p t ih =>
    simp only [depthP]
    cases j with
    | zero => exact Nat.le_max_left _ _
    | succ j => exact Nat.le_trans (ih (by simpa using hj)) (Nat.le_max_right _ _)
theorem PT.depth_as (p : PT) : p.depth = depthP p.args + 1 := by cases p; rfl
theorem PT.depth_arg {p : PT} {j : Nat} (hj : j < p.args.length) {d : Nat} (hd : p.depth ≤ d + 1) : p.args[j].depth ≤ d := by
  have := depthP_get hj; rw [PT.depth_as] at hd; omega
theorem PT.depth_pos (p : PT) : 0 < p.depth := by rw [PT.depth_as]; omega

theorem RowAt.blw {W W' : World} {v : Value} {l : List V} (h : RowAt W v l) (hb : Below W.heap.size W W') : RowAt W' v l := (h.b.below hb (Nat.le_refl _)).at hb.size
/-- The form of a slice of n elements. -/
structure SlF (a : Option Addr) (n c : Nat) : Prop where
  le : n ≤ c
  max : c ≤ maxLen
  nil : a = none → n = 0 ∧ c = 0
  few : n ≤ 17592186044416
/-- The five cells of an operand stand at an address. -/
def OdC (w : World) (b o : Nat) (x : Od) : Prop := w.cell? ⟨b, o, none⟩ = some (.int .i64 x.k) ∧ w.cell? ⟨b, o + 1, none⟩ = some (.int .i64 x.i) ∧ CellsV w b (o + 2) x.v
theorem OdC.same {w w' : World} {b o : Nat} {x : Od} (hb : w'.heap[b]? = w.heap[b]?) (h : OdC w b o x) : OdC w' b o x := by
  have e : ∀ j, w'.cell? ⟨b, j, none⟩ = w.cell? ⟨b, j, none⟩ := fun j => World.cell?_of_block (w := w) (a := ⟨b, j, none⟩) hb
  obtain ⟨h0, h1, h2, h3, h4⟩ := h
  exact ⟨(e _).trans h0, (e _).trans h1, (e _).trans h2, (e _).trans h3, (e _).trans h4⟩
mutual
/-- The thirteen cells of a predicate stand at an address. -/
def PdC (P : Nat → Prop) (W : World) : PT → Nat → Nat → Prop
  | .mk op cmp l r args, b, o => W.cell? ⟨b, o, none⟩ = some (.int .i64 op) ∧ W.cell? ⟨b, o + 1, none⟩ = some (.int .i64 cmp) ∧ OdC W b (o + 2) l ∧ OdC W b (o + 7) r ∧ ∃ a c, W.cell? ⟨b, o + 12, none⟩ = some (.slice a args.length c) ∧ SlF a args.length c ∧
      (args.length = 0 ∨ ∃ b' o', a = some ⟨b', o', none⟩ ∧ P b' ∧ b' < W.heap.size ∧ PdL P W args b' o')
/-- Predicates stand one behind the other. -/
def PdL (P : Nat → Prop) (W : World) : List PT → Nat → Nat → Prop
  | [], _, _ => True
  | p :: t, b, o => PdC P W p b o ∧ PdL P W t b (o + 13)
end
/-- A slice value reads args predicates. -/
def PdS (P : Nat → Prop) (W : World) (args : List PT) (a : Option Addr) (c : Nat) : Prop :=
  SlF a args.length c ∧ (args.length = 0 ∨ ∃ b' o', a = some ⟨b', o', none⟩ ∧ P b' ∧ b' < W.heap.size ∧ PdL P W args b' o')
/-- The value of a predicate. -/
def pdV (p : PT) (a : Option Addr) (c : Nat) : Value := .agg #[.int .i64 p.op, .int .i64 p.cmp, .int .i64 p.l.k, .int .i64 p.l.i, .int .i64 p.l.v.k, .int .i64 p.l.v.n, .string p.l.v.s, .int .i64 p.r.k, .int .i64 p.r.i, .int .i64 p.r.v.k, .int .i64 p.r.v.n, .string p.r.v.s, .slice a p.args.length c]
/-- A struct value reads args a predicate. -/
def PdAt (P : Nat → Prop) (W : World) (v : Value) (p : PT) : Prop := ∃ a c, v = pdV p a c ∧ PdS P W p.args a c
abbrev Pd (W : World) (v : Value) (p : PT) : Prop := PdAt (fun _ => True) W v p
variable {P Q : Nat → Prop} {W W' : World}
theorem PdC.open {p : PT} {b o : Nat} (h : PdC P W p b o) : ∃ a c, W.cell? ⟨b, o, none⟩ = some (.int .i64 p.op) ∧ W.cell? ⟨b, o + 1, none⟩ = some (.int .i64 p.cmp) ∧ OdC W b (o + 2) p.l ∧ OdC W b (o + 7) p.r ∧ W.cell? ⟨b, o + 12, none⟩ = some (.slice a p.args.length c) ∧ PdS P W p.args a c := by
  cases p with
  | mk op cmp l r args =>
    unfold PdC at h
    obtain ⟨h0, h1, h2, h3, a, c, h4, h5, h6⟩ := h
    exact ⟨a, c, h0, h1, h2, h3, h4, h5, h6⟩
theorem PdC.close {p : PT} {b o : Nat} {a : Option Addr} {c : Nat} (h0 : W.cell? ⟨b, o, none⟩ = some (.int .i64 p.op)) (h1 : W.cell? ⟨b, o + 1, none⟩ = some (.int .i64 p.cmp)) (h2 : OdC W b (o + 2) p.l) (h3 : OdC W b (o + 7) p.r) (h4 : W.cell? ⟨b, o + 12, none⟩ = some (.slice a p.args.length c)) (h : PdS P W p.args a c) : PdC P W p b o := by
  cases p with
  | mk op cmp l r args => unfold PdC; exact ⟨h0, h1, h2, h3, a, c, h4, h.1, h.2⟩
theorem PdL.get : ∀ {ps : List PT} {b o : Nat}, PdL P W ps b o → ∀ j (h : j < ps.length), PdC P W ps[j] b (o + j * 13)
  | [], _, _, _, j, hj => by simp at hj
  | p :: t, b, o, h, 0, _ => by
    unfold PdL at h
    simp only [Nat.zero_mul, Nat.add_zero, List.getElem_cons_zero]
    exact h.1
  | p :: t, b, o, h, j + 1, hj => by
    unfold PdL at h
    have := PdL.get h.2 j (by simpa using hj)
    have e : o + 13 + j * 13 = o + (j + 1) * 13 := by omega
    rw [e] at this
    simpa using this
theorem PdL.mk' : ∀ {ps : List PT} {b o : Nat}, (∀ j (h : j < ps.length), PdC P W ps[j] b (o + j * 13)) → PdL P W ps b o
  | [], _, _, _ => by unfold PdL; trivial
  | p :: t, b, o, h => by
    unfold PdL
    have h0 := h 0 (by simp)
    simp only [Nat.zero_mul, Nat.add_zero, List.getElem_cons_zero] at h0
    refine ⟨h0, PdL.mk' fun j hj => ?_⟩
    have := h (j + 1) (by simpa using hj)
    have e : o + 13 + j * 13 = o + (j + 1) * 13 := by omega
    rw [e]
    simpa using this
mutual
theorem PdC.keep (hs : W.heap.size ≤ W'.heap.size) (hk : ∀ b, P b → b < W.heap.size → W'.heap[b]? = W.heap[b]?) : ∀ (p : PT) (b o : Nat), W'.heap[b]? = W.heap[b]? → PdC P W p b o → PdC P W' p b o
  | .mk op cmp l r args, b, o, hb, h => by
    unfold PdC at h ⊢
    obtain ⟨h0, h1, h2, h3, a, c, h4, h5, h6⟩ := h
    have e : ∀ j, W'.cell? ⟨b, j, none⟩ = W.cell? ⟨b, j, none⟩ := fun j => World.cell?_of_block (w := W) (a := ⟨b, j, none⟩) hb
    refine ⟨(e _).trans h0, (e _).trans h1, h2.same hb, h3.same hb, a, c, (e _).trans h4, h5, ?_⟩
    rcases h6 with h6 | ⟨b', o', ha, hP, hl, hps⟩
    · exact .inl h6
    · exact .inr ⟨b', o', ha, hP, Nat.lt_of_lt_of_le hl hs, PdL.keep hs hk args b' o' (hk b' hP hl) hps⟩
theorem PdL.keep (hs : W.heap.size ≤ W'.heap.size) (hk : ∀ b, P b → b < W.heap.size → W'.heap[b]? = W.heap[b]?) : ∀ (ps : List PT) (b o : Nat), W'.heap[b]? = W.heap[b]? → PdL P W ps b o → PdL P W' ps b o
  | [], _, _, _, _ => by unfold PdL; trivial
  | p :: t, b, o, hb, h => by
    unfold PdL at h ⊢
    exact ⟨PdC.keep hs hk p b o hb h.1, PdL.keep hs hk t b (o + 13) hb h.2⟩
end
theorem PdS.keep {args : List PT} {a : Option Addr} {c : Nat} (h : PdS P W args a c) (hs : W.heap.size ≤ W'.heap.size) (hk : ∀ b, P b → b < W.heap.size → W'.heap[b]? = W.heap[b]?) : PdS P W' args a c := by
  obtain ⟨h1, h2⟩ := h
  refine ⟨h1, ?_⟩
  rcases h2 with h2 | ⟨b', o', ha, hP, hl, hps⟩
  · exact .inl h2
  · exact .inr ⟨b', o', ha, hP, Nat.lt_of_lt_of_le hl hs, PdL.keep hs hk args b' o' (hk b' hP hl) hps⟩
theorem PdAt.keep {v : Value} {p : PT} (h : PdAt P W v p) (hs : W.heap.size ≤ W'.heap.size) (hk : ∀ b, P b → b < W.heap.size → W'.heap[b]? = W.heap[b]?) : PdAt P W' v p := by
  obtain ⟨a, c, e, h⟩ := h
  exact ⟨a, c, e, h.keep hs hk⟩
theorem PdS.below {args : List PT} {a : Option Addr} {c : Nat} (h : PdS P W args a c) (hb : Below W.heap.size W W') : PdS P W' args a c := h.keep hb.size fun b _ hl => hb.block b hl
theorem PdAt.below {v : Value} {p : PT} (h : PdAt P W v p) (hb : Below W.heap.size W W') : PdAt P W' v p := h.keep hb.size fun b _ hl => hb.block b hl
mutual
theorem PdC.weak (hq : ∀ b, P b → Q b) : ∀ (p : PT) (b o : Nat), PdC P W p b o → PdC Q W p b o
  | .mk op cmp l r args, b, o, h => by
    unfold PdC at h ⊢
    obtain ⟨h0, h1, h2, h3, a, c, h4, h5, h6⟩ := h
    refine ⟨h0, h1, h2, h3, a, c, h4, h5, ?_⟩
    rcases h6 with h6 | ⟨b', o', ha, hP, hl, hps⟩
    · exact .inl h6
    · exact .inr ⟨b', o', ha, hq _ hP, hl, PdL.weak hq args b' o' hps⟩
theorem PdL.weak (hq : ∀ b, P b → Q b) : ∀ (ps : List PT) (b o : Nat), PdL P W ps b o → PdL Q W ps b o
  | [], _, _, _ => by unfold PdL; trivial
  | p :: t, b, o, h => by
    unfold PdL at h ⊢
    exact ⟨PdC.weak hq p b o h.1, PdL.weak hq t b (o + 13) h.2⟩
end
theorem PdS.weak {args : List PT} {a : Option Addr} {c : Nat} (h : PdS P W args a c) (hq : ∀ b, P b → Q b) : PdS Q W args a c := by
  obtain ⟨h1, h2⟩ := h
  refine ⟨h1, ?_⟩
  rcases h2 with h2 | ⟨b', o', ha, hP, hl, hps⟩
  · exact .inl h2
  · exact .inr ⟨b', o', ha, hq _ hP, hl, PdL.weak hq args b' o' hps⟩
theorem PdAt.weak {v : Value} {p : PT} (h : PdAt P W v p) (hq : ∀ b, P b → Q b) : PdAt Q W v p := by
  obtain ⟨a, c, e, h⟩ := h
  exact ⟨a, c, e, h.weak hq⟩
theorem PdAt.all {v : Value} {p : PT} (h : PdAt P W v p) : Pd W v p := h.weak fun _ _ => trivial
/-- The j-th of a slice of predicates. -/
theorem PdS.get {args : List PT} {a : Option Addr} {c : Nat} (h : PdS P W args a c) {j : Nat} (hj : j < args.length) : ∃ b o a' c', a = some ⟨b, o, none⟩ ∧ P b ∧ b < W.heap.size ∧
    W.cell? ⟨b, o + j * 13, none⟩ = some (.int .i64 args[j].op) ∧ W.cell? ⟨b, o + j * 13 + 1, none⟩ = some (.int .i64 args[j].cmp) ∧
    W.cell? ⟨b, o + j * 13 + 2, none⟩ = some (.int .i64 args[j].l.k) ∧ W.cell? ⟨b, o + j * 13 + 3, none⟩ = some (.int .i64 args[j].l.i) ∧ W.cell? ⟨b, o + j * 13 + 4, none⟩ = some (.int .i64 args[j].l.v.k) ∧ W.cell? ⟨b, o + j * 13 + 5, none⟩ = some (.int .i64 args[j].l.v.n) ∧ W.cell? ⟨b, o + j * 13 + 6, none⟩ = some (.string args[j].l.v.s) ∧
    W.cell? ⟨b, o + j * 13 + 7, none⟩ = some (.int .i64 args[j].r.k) ∧ W.cell? ⟨b, o + j * 13 + 8, none⟩ = some (.int .i64 args[j].r.i) ∧ W.cell? ⟨b, o + j * 13 + 9, none⟩ = some (.int .i64 args[j].r.v.k) ∧ W.cell? ⟨b, o + j * 13 + 10, none⟩ = some (.int .i64 args[j].r.v.n) ∧ W.cell? ⟨b, o + j * 13 + 11, none⟩ = some (.string args[j].r.v.s) ∧
    W.cell? ⟨b, o + j * 13 + 12, none⟩ = some (.slice a' args[j].args.length c') ∧ PdS P W args[j].args a' c' := by
  rcases h.2 with h2 | ⟨b', o', ha, hP, hl, hps⟩
  · omega
  · obtain ⟨a', c', g0, g1, ⟨l0, l1, l2, l3, l4⟩, ⟨r0, r1, r2, r3, r4⟩, g4, g5⟩ := (hps.get j hj).open
    exact ⟨b', o', a', c', ha, hP, hl, g0, g1, l0, l1, l2, l3, l4, r0, r1, r2, r3, r4, g4, g5⟩
theorem PdS.nil (P : Nat → Prop) (W : World) : PdS P W [] none 0 := ⟨⟨by simp, by simp, fun _ => ⟨rfl, rfl⟩, by simp⟩, .inl rfl⟩
end Go.Proofs.Ytjcbmeannhafjaa
