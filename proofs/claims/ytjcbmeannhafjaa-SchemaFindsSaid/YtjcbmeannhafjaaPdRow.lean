
/- Rows of a case, and values of kinds. -/
import Derived.Test.YtjcbmeannhafjaaPdCase

import Derived.Test.YtjcbmeannhafjaaPdMath

namespace Go.Proofs.Ytjcbmeannhafjaa

open Go.RowKit Go.Deep

theorem okKs_get {l : List Int} (h : okKs l = true) {k : Nat} (hk : k < l.length) : l[k] = 3 ∨ l[k] = 4 ∨ l[k] = 5 := by
  unfold okKs at h
  exact okK_yes (List.all_eq_true.1 h _ (List.getElem_mem hk))
/-- What the loops that build a row know. -/
structure RwInv (bc B base : Nat) (w0 : World) (v : Value) (l : List V) (w : World) : Prop where
  own : w.ownsRow base 57 3 v l.length (cellsOf l)
  mv : Mv bc w0 w
  ok : CaseOk bc B w
theorem RwInv.step {bc B base : Nat} {w0 : World} {v : Value} {l : List V} {w w' : World} (h : RwInv bc B base w0 v l w) (hm : Mv bc w w') (ho : CaseOk bc B w') (hb : bc < base) : RwInv bc B base w0 v l w' :=
  ⟨own_mv h.own hm hb, h.mv.trans hm, ho⟩
theorem cells3 (w : World) (k n : Int) (s : ByteArray) (t : TypeId) : ∀ (j : Nat) (u : Value), ([.int .i64 k, .int .i64 n, .string s] : List Value)[j]? = some u → (w.alloc (.cells #[.int .i64 k, .int .i64 n, .string s] t)).cell? ((⟨w.heap.size, 0, none⟩ : Addr).add j) = some u := by
  intro j u hj
  have ha : (⟨w.heap.size, 0, none⟩ : Addr).add j = ⟨w.heap.size, j, none⟩ := by unfold Addr.add; split <;> simp_all
  rw [ha]
  have := World.cell?_alloc_mark w #[.int .i64 k, .int .i64 n, .string s] t (0, 0) j
  refine this.trans ?_
  rw [← hj]; simp
theorem one3 (k n : Int) (s : ByteArray) : ∀ u ∈ ([.int .i64 k, .int .i64 n, .string s] : List Value), u.oneCell' = true := by
  intro u hu
  simp only [List.mem_cons, List.not_mem_nil, or_false] at hu
  rcases hu with rfl | rfl | rfl <;> rfl
theorem RwInv.app {bc B base : Nat} {w0 : World} {v v' : Value} {l : List V} {w w' : World} {O : Obj} (h : RwInv bc B base w0 v l w) (x : V) (hbase : w0.heap.size ≤ base) (hB : B ≤ base)
    (ho : w'.ownsRow base 57 3 v' (l.length + 1) (cellsOf l ++ [.int .i64 x.k, .int .i64 x.n, .string x.s])) (hg : (w.alloc O).grownBy w' v.ownBlock) : RwInv bc B base w0 v' (l ++ [x]) w' := by
  have hlt := h.own.lt
  obtain ⟨k, n, s⟩ := x
  exact ⟨by rw [cellsOf_snoc]; simpa using ho, (h.mv.alloc O).grown hg hbase (fun kk e => (hlt kk e).1), (h.ok.alloc O).grown hg hB (fun kk e => (hlt kk e).1)⟩

def RowPost (bc B : Nat) (K : List Int) (w : World) (e : Ending) (w' : World) : Prop := ∃ (v : Value) (l : List V), e = .returned v ∧ l.length = K.length ∧ RowT w.heap.size w' v l ∧ Mv bc w w' ∧ CaseOk bc B w'

/-- Values that fit kinds. -/
def FitV (l : List V) (K : List Int) : Prop := l.length = K.length ∧ ∀ j (h : j < l.length) (h' : j < K.length), l[j].k = K[j] ∧ realV l[j] = true
def ValsPost (bc B : Nat) (K : List Int) (w : World) (e : Ending) (w' : World) : Prop := ∃ (v : Value) (l : List V), e = .returned v ∧ FitV l K ∧ RowT w.heap.size w' v l ∧ Mv bc w w' ∧ CaseOk bc B w'
theorem fit_app {l : List V} {K : List Int} {k : Nat} (h : FitV l (K.take k)) (hk : k < K.length) (x : V) (hx : x.k = K[k]) (hr : realV x = true) : FitV (l ++ [x]) (K.take (k + 1)) := by
  obtain ⟨h1, h2⟩ := h
  rw [List.length_take] at h1
  refine ⟨by simp; omega, fun j hj hj' => ?_⟩
  by_cases e : j < l.length
  · have := h2 j e (by simp; omega)
    rw [List.getElem_append_left e]
    simpa using this
  · have e2 : j = k := by simp at hj; omega
    subst e2
    have e3 : l.length = j := by omega
    rw [List.getElem_append_right (by omega)]
    simp only [e3, Nat.sub_self, List.getElem_cons_zero, List.getElem_take]
    exact ⟨hx, hr⟩

end Go.Proofs.Ytjcbmeannhafjaa
