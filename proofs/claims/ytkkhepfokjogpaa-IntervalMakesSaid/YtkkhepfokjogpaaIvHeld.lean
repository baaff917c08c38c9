
/- A region that draws its order, walked by hand: the operations that their guards pass over, all at once. -/
import Derived.Test.YtkkhepfokjogpaaIvLeaf

import Derived.Deep.RegionHeld3

namespace Go.Proofs.Ytkkhepfokjogpaa

open Go.RowKit

section

variable {P : Program} {md : Region.Mode} {ops : Array Oper} {Q : Exit → Act → World → Prop} {S : World → Prop}
/-- 'wpAnyH_take', the frame behind it written out. -/
theorem wpAnyH_takeD {i d : Nat} {oi : Oper} {v : Value} {fuel : Nat} {listed : Array Bool} {L : List Value} {D : List Deferred} {w : World} (hi : ops[i]? = some oi) (hd : oi.dst = some d)
    (hs : Region.noSelect ops = true) (hf : Region.free md ops listed i = true) (hr : (Region.ready md ops listed).contains i = true)
    (hQ : ∀ c a w, Q (.panic c) (Act.put a (some d) v) w → Q (.panic c) a w) (hy : YieldsIf P ops S oi v ⟨L.toArray, D⟩) (hS : S w)
    (h : wpAnyH P md ops Q S fuel (listed.setIfInBounds i true) ⟨(L.set d v).toArray, D⟩ w) : wpAnyH P md ops Q S (fuel + 1) listed ⟨L.toArray, D⟩ w := by
  refine wpAnyH_take hi hs hf hr (fun c a w => by rw [hd]; exact hQ c a w) hy hS ?_
  rw [hd]
  simpa only [Act.put, List.setIfInBounds_toArray] using h

def skipOk (md : Region.Mode) (ops : Array Oper) (D : List Deferred) : List (Nat × Nat) → Array Bool → List Value → Bool
  | [], _, _ => true
  | (j, d) :: js, listed, L => match ops[j]? with
    | none => false
    | some o => Region.free md ops listed j && (Region.ready md ops listed).contains j && !Region.wanted o (yielded ops L.toArray) && decide (o.dst = some d) && skipOk md ops D js (listed.setIfInBounds j true) (L.set d undef)
def skipPut : List (Nat × Nat) → List Value → List Value
  | [], L => L
  | (_, d) :: js, L => skipPut js (L.set d undef)
def skipList : List (Nat × Nat) → Array Bool → Array Bool
  | [], l => l
  | (j, _) :: js, l => skipList js (l.setIfInBounds j true)
/-- Operations that their guards pass over, all at once. -/
theorem wpAnyH_skips {w : World} {D : List Deferred} (hs : Region.noSelect ops = true)
    (hQ : ∀ s c v a w, Q (.panic c) (Act.put a (some s) v) w → Q (.panic c) a w) (hS : S w) :
    ∀ (js : List (Nat × Nat)) {fuel : Nat} {listed : Array Bool} {L : List Value}, skipOk md ops D js listed L = true → wpAnyH P md ops Q S fuel (skipList js listed) ⟨(skipPut js L).toArray, D⟩ w → wpAnyH P md ops Q S (fuel + js.length) listed ⟨L.toArray, D⟩ w
  | [], _, _, _, _, h => h
  | (j, d) :: js, fuel, listed, L, hk, h => by
    rw [skipOk] at hk
    cases ho : ops[j]? with
    | none => simp [ho] at hk
    | some o =>
      simp only [ho, Bool.and_eq_true, Bool.not_eq_true', decide_eq_true_eq] at hk
      obtain ⟨⟨⟨⟨h1, h2⟩, h3⟩, h5⟩, h4⟩ := hk
      exact wpAnyH_takeD (i := j) (d := d) (v := undef) ho h5 hs h1 h2 (fun c a w => hQ d c _ a w) (Or.inr ⟨h3, rfl⟩) hS (wpAnyH_skips hs hQ hS js h4 h)
end

end Go.Proofs.Ytkkhepfokjogpaa
