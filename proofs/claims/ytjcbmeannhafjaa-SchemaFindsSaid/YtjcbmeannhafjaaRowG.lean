
/- Rows of a case at any key and mode. -/
import Derived.Test.YtjcbmeannhafjaaPdRow

namespace Go.Proofs.Ytjcbmeannhafjaa

open Go.RowKit Go.Deep

set_option maxHeartbeats 400000 in
theorem cBool_n (bc B : Nat) (n : Int) (w : World) (hn : 1 ≤ n) (hn2 : n ≤ 100) (h : CaseOk bc B w) : Calls Try.prog 30 #[.pointer (some ⟨bc, 0, none⟩), .int .i64 n] w (BoolPost bc B w) := by
  have HI := Lib.hid (cInt_any bc B n w (by omega) (by omega) h)
  clear h
  go_enter Try.func30, Try.ntmps30
  go_wp2_with fail
  refine HI.out.mono ?_
  rintro e w1 ⟨r, rfl, hr0, hr1, hm, ho⟩
  clear HI
  go_wp2_with fail
  go_ret
  exact ⟨_, rfl, hm, ho⟩

def fitB (ck : Int) (i : Nat) (key mode : Int) (v : V) : Bool := vldB v.k v.n v.s && (v.k == ck || (v.k == 2 && (decide (key ≤ i) && mode != 1)) || (v.k == 1 && (decide (key ≤ i) && mode == 3)))
/-- All cells fit their columns. -/
def FitP (K : List Int) (key mode : Int) (l : List V) : Prop := ∀ j (h : j < l.length) (h' : j < K.length), fitB K[j] j key mode l[j] = true
theorem FitP.app {K : List Int} {key mode : Int} {l : List V} (h : FitP K key mode l) {k : Nat} (hk : l.length = k) (hkK : k < K.length) {x : V} (hx : fitB K[k] k key mode x = true) : FitP K key mode (l ++ [x]) := by
  intro j hj hj'
  by_cases e : j < l.length
  · rw [List.getElem_append_left e]; exact h j e hj'
  · have e2 : j = l.length := by simp at hj; omega
    subst e2
    subst hk
    rw [List.getElem_append_right (by omega)]
    simpa using hx
theorem fit_val {k n : Int} {s : ByteArray} (i : Nat) (key mode : Int) (h : vldB k n s = true) : fitB k i key mode ⟨k, n, s⟩ = true := by
  unfold fitB; rw [h]; simp
theorem fit_hid {ck : Int} {i : Nat} {key mode : Int} (h : key ≤ (i : Int)) (hm : mode ≠ 1) : fitB ck i key mode ⟨2, 0, ⟨#[]⟩⟩ = true := by
  unfold fitB; rw [show vldB 2 0 ⟨#[]⟩ = true from rfl]; simp [h, hm]
theorem fit_mis {ck : Int} {i : Nat} {key mode : Int} (h : key ≤ (i : Int)) (hm : mode = 3) : fitB ck i key mode ⟨1, 0, ⟨#[]⟩⟩ = true := by
  unfold fitB; rw [show vldB 1 0 ⟨#[]⟩ = true from rfl]; simp [h, hm]
/-- A row is returned that the call owns, and that fits. -/
def RowGPost (bc B : Nat) (K : List Int) (key mode : Int) (w : World) (e : Ending) (w' : World) : Prop := ∃ (v : Value) (l : List V), e = .returned v ∧ l.length = K.length ∧ FitP K key mode l ∧ w'.ownsRow w.heap.size 57 3 v l.length (cellsOf l) ∧ Mv bc w w' ∧ CaseOk bc B w'

end Go.Proofs.Ytjcbmeannhafjaa
