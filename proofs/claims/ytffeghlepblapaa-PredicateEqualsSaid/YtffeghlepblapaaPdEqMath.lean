
/- When two predicates are the same. -/
import Derived.Test.YtffeghlepblapaaPdMem

namespace Go.Proofs.Ytffeghlepblapaa

noncomputable def eqT (a b : PT) : Bool := @decide (a = b) (Classical.propDecidable _)
theorem eqT_iff {a b : PT} : eqT a b = true ↔ a = b := by unfold eqT; exact @decide_eq_true_iff _ (Classical.propDecidable _)
theorem eqT_false {a b : PT} : eqT a b = false ↔ a ≠ b := by rw [← Bool.not_eq_true, eqT_iff]
theorem eqT_refl (a : PT) : eqT a a = true := eqT_iff.2 rfl
noncomputable def eqTs (a b : List PT) : Bool := @decide (a = b) (Classical.propDecidable _)
theorem eqTs_iff {a b : List PT} : eqTs a b = true ↔ a = b := by unfold eqTs; exact @decide_eq_true_iff _ (Classical.propDecidable _)
theorem eqT_op {o c : Int} {l r : Od} {a : List PT} {o' c' : Int} {l' r' : Od} {a' : List PT} (h : ¬ o = o') : eqT (.mk o c l r a) (.mk o' c' l' r' a') = false := eqT_false.2 fun e => h (by injection e)
theorem eqT_cmp {o c : Int} {l r : Od} {a : List PT} {o' c' : Int} {l' r' : Od} {a' : List PT} (h : ¬ c = c') : eqT (.mk o c l r a) (.mk o' c' l' r' a') = false := eqT_false.2 fun e => h (by injection e)
theorem eqT_l {o c : Int} {l r : Od} {a : List PT} {o' c' : Int} {l' r' : Od} {a' : List PT} (h : ¬ l = l') : eqT (.mk o c l r a) (.mk o' c' l' r' a') = false := eqT_false.2 fun e => h (by injection e)
theorem eqT_r {o c : Int} {l r : Od} {a : List PT} {o' c' : Int} {l' r' : Od} {a' : List PT} (h : ¬ r = r') : eqT (.mk o c l r a) (.mk o' c' l' r' a') = false := eqT_false.2 fun e => h (by injection e)
theorem eqT_len {o c : Int} {l r : Od} {a : List PT} {o' c' : Int} {l' r' : Od} {a' : List PT} (h : ¬ a.length = a'.length) : eqT (.mk o c l r a) (.mk o' c' l' r' a') = false := eqT_false.2 fun e => h (by injection e with _ _ _ _ e; rw [e])
theorem eqT_args {o c : Int} {l r : Od} {a a' : List PT} : eqT (.mk o c l r a) (.mk o c l r a') = eqTs a a' := by
  rw [Bool.eq_iff_iff, eqT_iff, eqTs_iff]
  exact ⟨fun e => by injection e, fun e => by rw [e]⟩
theorem dropT_iff (l1 l2 : List PT) (k : Nat) (i1 : k < l1.length) (i2 : k < l2.length) : (l1.drop k = l2.drop k) ↔ (eqT l1[k] l2[k] = true ∧ l1.drop (k + 1) = l2.drop (k + 1)) := by
  rw [List.drop_eq_getElem_cons i1, List.drop_eq_getElem_cons i2, List.cons.injEq, eqT_iff]
end Go.Proofs.Ytffeghlepblapaa
