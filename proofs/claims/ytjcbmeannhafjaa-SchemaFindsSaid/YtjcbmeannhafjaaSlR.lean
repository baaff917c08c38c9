
/- Slices of things in memory: one relation for all kinds of elements. -/
import Derived.Test.YtjcbmeannhafjaaPdCase

import Derived.Test.YtjcbmeannhafjaaPdMem

namespace Go.Proofs.Ytjcbmeannhafjaa

open Go.RowKit Go.Deep

/-- What stands at a place: a thing of sz cells, which may lead to blocks that satisfy P. -/
structure MemK (τ : Type) where
  sz : Nat
  R : (Nat → Prop) → World → Nat → Nat → τ → Prop
  keep : ∀ {P : Nat → Prop} {W W' : World} {b o : Nat} {t : τ}, W.heap.size ≤ W'.heap.size → (∀ k, P k → k < W.heap.size → W'.heap[k]? = W.heap[k]?) → W'.heap[b]? = W.heap[b]? → R P W b o t → R P W' b o t
  weak : ∀ {P Q : Nat → Prop} {W : World} {b o : Nat} {t : τ}, (∀ k, P k → Q k) → R P W b o t → R Q W b o t
/-- A slice value reads as a list of things. -/
def SlR {τ : Type} (K : MemK τ) (P : Nat → Prop) (W : World) (v : Value) (l : List τ) : Prop :=
  ∃ a c, v = .slice a l.length c ∧ SlF a l.length c ∧ ∀ j (h : j < l.length), ∃ b off, a = some ⟨b, off, none⟩ ∧ P b ∧ b < W.heap.size ∧ K.R P W b (off + j * K.sz) l[j]
variable {τ : Type} {K : MemK τ} {P Q : Nat → Prop} {W W' : World} {v : Value} {l : List τ}
theorem SlR.shape (h : SlR K P W v l) : ∃ a c, v = .slice a l.length c ∧ SlF a l.length c := by
  obtain ⟨a, c, e, hf, _⟩ := h; exact ⟨a, c, e, hf⟩
theorem SlR.keep (h : SlR K P W v l) (hs : W.heap.size ≤ W'.heap.size) (hk : ∀ k, P k → k < W.heap.size → W'.heap[k]? = W.heap[k]?) : SlR K P W' v l := by
  obtain ⟨a, c, e, hf, hi⟩ := h
  refine ⟨a, c, e, hf, fun j hj => ?_⟩
  obtain ⟨b, off, ea, hp, hb, hr⟩ := hi j hj
  exact ⟨b, off, ea, hp, Nat.lt_of_lt_of_le hb hs, K.keep hs hk (hk b hp hb) hr⟩
theorem SlR.weak (h : SlR K P W v l) (hq : ∀ k, P k → Q k) : SlR K Q W v l := by
  obtain ⟨a, c, e, hf, hi⟩ := h
  refine ⟨a, c, e, hf, fun j hj => ?_⟩
  obtain ⟨b, off, ea, hp, hb, hr⟩ := hi j hj
  exact ⟨b, off, ea, hq b hp, hb, K.weak hq hr⟩
theorem SlR.below (h : SlR K P W v l) (hb : Below W.heap.size W W') : SlR K P W' v l := h.keep hb.size fun k _ hk => hb.block k hk
theorem SlR.mv {bc : Nat} (h : SlR K P W v l) (hm : Mv bc W W') (hp : ¬ P bc) : SlR K P W' v l := h.keep hm.size fun k hP hk => hm.block k hk (fun e => hp (e ▸ hP))
theorem SlR.nil (K : MemK τ) (P : Nat → Prop) (W : World) : SlR K P W (.slice none 0 0) [] := ⟨none, 0, rfl, ⟨by simp, by simp, fun _ => ⟨rfl, rfl⟩, by simp⟩, fun j h => absurd h (by simp)⟩
/-- What a nil slice reads as. -/
theorem SlR.of_nil {n c : Nat} (h : SlR K P W (.slice none n c) l) : l = [] ∧ n = 0 ∧ c = 0 := by
  obtain ⟨a, c', e, hf, hi⟩ := h
  simp only [Value.slice.injEq] at e
  obtain ⟨rfl, rfl, rfl⟩ := e
  have := hf.nil rfl
  exact ⟨List.eq_nil_of_length_eq_zero this.1, this⟩
/-- A part of a slice from its front. -/
theorem SlR.take {a : Option Addr} {n c : Nat} (h : SlR K P W (.slice a n c) l) (k : Nat) (hk : k ≤ n) : SlR K P W (.slice a k c) (l.take k) := by
  obtain ⟨a', c', e, hf, hi⟩ := h
  simp only [Value.slice.injEq] at e
  obtain ⟨rfl, rfl, rfl⟩ := e
  have hl : (l.take k).length = k := by simp; omega
  refine ⟨a, c, by rw [hl], ⟨by have := hf.le; omega, hf.max, fun e => by have := hf.nil e; omega, by have := hf.few; omega⟩, fun j hj => ?_⟩
  obtain ⟨b, off, ea, hp, hb, hr⟩ := hi j (by omega)
  exact ⟨b, off, ea, hp, hb, by simpa using hr⟩

/-- Ints. -/
def intK : MemK Int := ⟨1, fun _ W b o z => W.cell? ⟨b, o, none⟩ = some (.int .i64 z), fun _ _ hb h => (World.cell?_of_block hb).trans h, fun _ h => h⟩
theorem SlR.ints {v : Value} {l : List Int} (h : SlR intK P W v l) : IntsAt W v l := by
  obtain ⟨a, c, e, hf, hi⟩ := h
  refine ⟨a, c, e, hf, fun j hj => ?_⟩
  obtain ⟨b, off, ea, hp, hb, hr⟩ := hi j hj
  exact ⟨b, off, ea, hb, by have : off + j * 1 = off + j := by omega
                            rw [← this]; exact hr⟩
theorem IntsG.slR {lo : Nat} {v : Value} {l : List Int} (h : IntsG lo W v l) : SlR intK (fun b => lo ≤ b) W v l := by
  obtain ⟨a, c, e, hf, hi⟩ := h
  refine ⟨a, c, e, hf, fun j hj => ?_⟩
  obtain ⟨b, off, ea, hp, hb, hr⟩ := hi j hj
  refine ⟨b, off, ea, hp, hb, ?_⟩
  show W.cell? ⟨b, off + j * 1, none⟩ = _
  have : off + j * 1 = off + j := by omega
  rw [this]; exact hr
end Go.Proofs.Ytjcbmeannhafjaa

/- Schemas: as mathematics, and in memory. -/
namespace Go.Proofs.Ytjcbmeannhafjaa

open Go.RowKit Go.Deep

/-- A column. -/
structure CL where
  s : ByteArray
  k : Int
/-- A reference. -/
structure RF where
  c : List Int
  t : Int
/-- A table. -/
structure TB where
  s : ByteArray
  cs : List CL
  key : Int
  rs : List RF
  ck : List PT
/-- A schema. -/
structure SC where
  ver : Int
  ts : List TB
def zTB : TB := ⟨⟨#[]⟩, [], 0, [], []⟩
instance : Inhabited TB := ⟨zTB⟩
instance : Inhabited CL := ⟨⟨⟨#[]⟩, 0⟩⟩
def colK : MemK CL := ⟨2, fun _ W b o c => W.cell? ⟨b, o, none⟩ = some (.string c.s) ∧ W.cell? ⟨b, o + 1, none⟩ = some (.int .i64 c.k),
  fun _ _ hb h => ⟨(World.cell?_of_block hb).trans h.1, (World.cell?_of_block hb).trans h.2⟩, fun _ h => h⟩
def refK : MemK RF := ⟨2, fun P W b o r => (∃ v, W.cell? ⟨b, o, none⟩ = some v ∧ SlR intK P W v r.c) ∧ W.cell? ⟨b, o + 1, none⟩ = some (.int .i64 r.t),
  fun hs hk hb h => ⟨by obtain ⟨⟨v, h1, h2⟩, _⟩ := h; exact ⟨v, (World.cell?_of_block hb).trans h1, h2.keep hs hk⟩, (World.cell?_of_block hb).trans h.2⟩,
  fun hq h => ⟨by obtain ⟨⟨v, h1, h2⟩, _⟩ := h; exact ⟨v, h1, h2.weak hq⟩, h.2⟩⟩
/-- The five cells of a table, whose lists read as its parts. -/
structure TbP (P : Nat → Prop) (W : World) (cv rv : Value) (pa : Option Addr) (pc : Nat) (t : TB) : Prop where
  cols : SlR colK P W cv t.cs
  refs : SlR refK P W rv t.rs
  chks : PdS P W t.ck pa pc
def tbV (t : TB) (cv rv : Value) (pa : Option Addr) (pc : Nat) : Value := .agg #[.string t.s, cv, .int .i64 t.key, rv, .slice pa t.ck.length pc]
variable {P Q : Nat → Prop} {W W' : World}
theorem TbP.keep {cv rv : Value} {pa : Option Addr} {pc : Nat} {t : TB} (h : TbP P W cv rv pa pc t) (hs : W.heap.size ≤ W'.heap.size) (hk : ∀ k, P k → k < W.heap.size → W'.heap[k]? = W.heap[k]?) : TbP P W' cv rv pa pc t :=
  ⟨h.cols.keep hs hk, h.refs.keep hs hk, h.chks.keep hs hk⟩
theorem TbP.weak {cv rv : Value} {pa : Option Addr} {pc : Nat} {t : TB} (h : TbP P W cv rv pa pc t) (hq : ∀ k, P k → Q k) : TbP Q W cv rv pa pc t :=
  ⟨h.cols.weak hq, h.refs.weak hq, h.chks.weak hq⟩
def TbC (W : World) (b o : Nat) (t : TB) (cv rv : Value) (pa : Option Addr) (pc : Nat) : Prop :=
  W.cell? ⟨b, o, none⟩ = some (.string t.s) ∧ W.cell? ⟨b, o + 1, none⟩ = some cv ∧ W.cell? ⟨b, o + 2, none⟩ = some (.int .i64 t.key) ∧ W.cell? ⟨b, o + 3, none⟩ = some rv ∧ W.cell? ⟨b, o + 4, none⟩ = some (.slice pa t.ck.length pc)
theorem TbC.same {b o : Nat} {t : TB} {cv rv : Value} {pa : Option Addr} {pc : Nat} (hb : W'.heap[b]? = W.heap[b]?) (h : TbC W b o t cv rv pa pc) : TbC W' b o t cv rv pa pc :=
  ⟨(World.cell?_of_block hb).trans h.1, (World.cell?_of_block hb).trans h.2.1, (World.cell?_of_block hb).trans h.2.2.1, (World.cell?_of_block hb).trans h.2.2.2.1, (World.cell?_of_block hb).trans h.2.2.2.2⟩
def tabK : MemK TB := ⟨5, fun P W b o t => ∃ cv rv pa pc, TbC W b o t cv rv pa pc ∧ TbP P W cv rv pa pc t,
  fun hs hk hb h => by obtain ⟨cv, rv, pa, pc, h1, h2⟩ := h; exact ⟨cv, rv, pa, pc, h1.same hb, h2.keep hs hk⟩,
  fun hq h => by obtain ⟨cv, rv, pa, pc, h1, h2⟩ := h; exact ⟨cv, rv, pa, pc, h1, h2.weak hq⟩⟩
/-- A struct value reads as a schema. -/
def Sc (P : Nat → Prop) (W : World) (v : Value) (s : SC) : Prop := ∃ tv, v = .agg #[.int .i64 s.ver, tv] ∧ SlR tabK P W tv s.ts
/-- A struct value reads as a table. -/
def TbVal (P : Nat → Prop) (W : World) (v : Value) (t : TB) : Prop := ∃ cv rv pa pc, v = tbV t cv rv pa pc ∧ TbP P W cv rv pa pc t
theorem Sc.below {v : Value} {s : SC} (h : Sc P W v s) (hb : Below W.heap.size W W') : Sc P W' v s := by
  obtain ⟨tv, e, h⟩ := h; exact ⟨tv, e, h.below hb⟩
theorem Sc.mv {bc : Nat} {v : Value} {s : SC} (h : Sc P W v s) (hm : Mv bc W W') (hp : ¬ P bc) : Sc P W' v s := by
  obtain ⟨tv, e, h⟩ := h; exact ⟨tv, e, h.mv hm hp⟩
theorem Sc.weak {v : Value} {s : SC} (h : Sc P W v s) (hq : ∀ k, P k → Q k) : Sc Q W v s := by
  obtain ⟨tv, e, h⟩ := h; exact ⟨tv, e, h.weak hq⟩
theorem TbP.below {cv rv : Value} {pa : Option Addr} {pc : Nat} {t : TB} (h : TbP P W cv rv pa pc t) (hb : Below W.heap.size W W') : TbP P W' cv rv pa pc t := h.keep hb.size fun k _ hk => hb.block k hk
theorem TbVal.below {v : Value} {t : TB} (h : TbVal P W v t) (hb : Below W.heap.size W W') : TbVal P W' v t := by
  obtain ⟨cv, rv, pa, pc, e, h⟩ := h; exact ⟨cv, rv, pa, pc, e, h.below hb⟩
theorem TbP.zero : TbP P W (.slice none 0 0) (.slice none 0 0) none 0 zTB := ⟨SlR.nil _ _ _, SlR.nil _ _ _, PdS.nil _ _⟩
/-- Everything of a table in memory, in letters. -/
theorem tab_get {a : Option Addr} {n c : Nat} {ts : List TB} (h : SlR tabK P W (.slice a n c) ts) {j : Nat} (hj : j < ts.length) :
    ∃ b off, a = some ⟨b, off, none⟩ ∧ P b ∧ b < W.heap.size ∧ ∃ ca cc ra rc pa pc, W.cell? ⟨b, off + j * 5, none⟩ = some (.string ts[j].s) ∧ W.cell? ⟨b, off + j * 5 + 1, none⟩ = some (.slice ca ts[j].cs.length cc) ∧ W.cell? ⟨b, off + j * 5 + 2, none⟩ = some (.int .i64 ts[j].key) ∧ W.cell? ⟨b, off + j * 5 + 3, none⟩ = some (.slice ra ts[j].rs.length rc) ∧ W.cell? ⟨b, off + j * 5 + 4, none⟩ = some (.slice pa ts[j].ck.length pc) ∧ TbP P W (.slice ca ts[j].cs.length cc) (.slice ra ts[j].rs.length rc) pa pc ts[j] := by
  obtain ⟨a', c', e, hf, hi⟩ := h
  simp only [Value.slice.injEq] at e
  obtain ⟨rfl, rfl, rfl⟩ := e
  obtain ⟨b, off, ea, hp, hb, cv, rv, pa, pc, ⟨h0, h1, h2, h3, h4⟩, ht⟩ := hi j hj
  obtain ⟨ca, cc, rfl, _⟩ := ht.cols.shape
  obtain ⟨ra, rc, rfl, _⟩ := ht.refs.shape
  exact ⟨b, off, ea, hp, hb, ca, cc, ra, rc, pa, pc, h0, h1, h2, h3, h4, ht⟩
theorem col_get {a : Option Addr} {n c : Nat} {cs : List CL} (h : SlR colK P W (.slice a n c) cs) {j : Nat} (hj : j < cs.length) :
    ∃ b off, a = some ⟨b, off, none⟩ ∧ P b ∧ b < W.heap.size ∧ W.cell? ⟨b, off + j * 2, none⟩ = some (.string cs[j].s) ∧ W.cell? ⟨b, off + j * 2 + 1, none⟩ = some (.int .i64 cs[j].k) := by
  obtain ⟨a', c', e, hf, hi⟩ := h
  simp only [Value.slice.injEq] at e
  obtain ⟨rfl, rfl, rfl⟩ := e
  obtain ⟨b, off, ea, hp, hb, h0, h1⟩ := hi j hj
  exact ⟨b, off, ea, hp, hb, h0, h1⟩
theorem ref_get {a : Option Addr} {n c : Nat} {rs : List RF} (h : SlR refK P W (.slice a n c) rs) {j : Nat} (hj : j < rs.length) :
    ∃ b off, a = some ⟨b, off, none⟩ ∧ P b ∧ b < W.heap.size ∧ ∃ ia ic, W.cell? ⟨b, off + j * 2, none⟩ = some (.slice ia rs[j].c.length ic) ∧ W.cell? ⟨b, off + j * 2 + 1, none⟩ = some (.int .i64 rs[j].t) ∧ SlR intK P W (.slice ia rs[j].c.length ic) rs[j].c := by
  obtain ⟨a', c', e, hf, hi⟩ := h
  simp only [Value.slice.injEq] at e
  obtain ⟨rfl, rfl, rfl⟩ := e
  obtain ⟨b, off, ea, hp, hb, ⟨v, h0, h1⟩, h2⟩ := hi j hj
  obtain ⟨ia, ic, rfl, _⟩ := h1.shape
  exact ⟨b, off, ea, hp, hb, ia, ic, h0, h2, h1⟩
/-- The table at an index; one without anything if there is none. -/
def inT (s : SC) (i : Int) : Bool := decide (0 ≤ i ∧ i < s.ts.length)
def tbAt (s : SC) (i : Int) : TB := if inT s i then s.ts.getD i.toNat zTB else zTB
def kndT (t : TB) : List Int := t.cs.map CL.k
def keyL (t : TB) (n : Nat) : Nat := min t.key.toNat n
theorem tbAt_in {s : SC} {k : Nat} (h : k < s.ts.length) : tbAt s k = s.ts[k] := by
  unfold tbAt inT; rw [if_pos (by simpa using h)]; simp [List.getD_eq_getElem?_getD, h]
theorem tbAt_out {s : SC} {i : Int} (h : inT s i = false) : tbAt s i = zTB := by
  unfold tbAt; rw [h]; rfl
theorem inT_true {s : SC} {i : Int} (h : inT s i = true) : ∃ k : Nat, i = k ∧ k < s.ts.length := by
  unfold inT at h; simp only [decide_eq_true_eq] at h; exact ⟨i.toNat, by omega, by omega⟩
end Go.Proofs.Ytjcbmeannhafjaa
