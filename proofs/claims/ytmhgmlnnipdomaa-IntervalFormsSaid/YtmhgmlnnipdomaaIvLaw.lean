
/- What the laws of sets say, as plain mathematics. -/
import Derived.Test.YtmhgmlnnipdomaaIvOps

namespace Go.Proofs.Ytmhgmlnnipdomaa

/-- A canonical list of at most n intervals. -/
structure Can (n : Nat) (L : List IV) : Prop where
  ord : Ord L
  len : L.length ≤ n
theorem Can.vld {n : Nat} {L : List IV} (h : Can n L) (hn : n ≤ 64) : vldL L = true := vldL_iff.2 ⟨Nat.le_trans h.len hn, h.ord⟩

/-- An operation on two sets that are short enough. -/
theorem Res.op {k : Bool → Bool → Bool} {A B L : List IV} {er : Int} (h : Res k A B L er) {n m : Nat} (ha : Can n A) (hb : Can m B) (hnm : n + m ≤ 64) : er = 0 ∧ IsOp k A B L ∧ Can (n + m) L := by
  have h1 := ha.len
  have h2 := hb.len
  rcases h with ⟨h, _⟩ | ⟨_, M, hM, hl, ⟨_, rfl, rfl⟩ | ⟨hc, _⟩⟩
  · rw [ha.vld (by omega), hb.vld (by omega)] at h; simp at h
  · exact ⟨rfl, hM, hM.ord, by omega⟩
  · omega
theorem okV_least {v : V} (h : okV v = true) : cmpV ⟨1, 0, ⟨#[]⟩⟩ v ≤ 0 := by
  obtain ⟨k, n, s⟩ := v
  simp only [okV, vldB, decide_eq_true_eq] at h
  unfold cmpV
  simp only
  by_cases hk : (1 : Int) = k
  · rw [if_pos hk]
    subst hk
    rcases h with ⟨_, hn, hs⟩ | ⟨h, _⟩ | ⟨h, _⟩ | ⟨h, _⟩
    · subst hn
      rw [if_pos rfl]
      obtain ⟨⟨l⟩⟩ := s
      have : l = [] := List.eq_nil_of_length_eq_zero hs
      subst this
      exact Int.le_of_eq ((cmpV_zero ⟨1, 0, ⟨#[]⟩⟩ ⟨1, 0, ⟨#[]⟩⟩).2 rfl ▸ rfl)
    · omega
    · omega
    · omega
  · rw [if_neg hk, cmpI_le]; omega
theorem allL_in {v : V} (h : okV v = true) : inL allL v = true := by
  simp [allL, inL, inI, okV_least h]
theorem allL_can : Can 1 allL := ⟨(ordL_iff allL).1 (by decide), by decide⟩

variable {A B X L M N P Q R S : List IV}
theorem Can.ext {n m : Nat} (h : Can n L) (h' : Can m M) (he : ∀ v, okV v = true → inL L v = inL M v) : L = M := ord_ext h.ord h'.ord he

/-- Two sets that cover one another are the same. -/
theorem covers_once {n m : Nat} (ha : Can n A) (hb : Can m B) (hn : n ≤ 64) (hm : m ≤ 64) {p q : Bool} {e f : Int} (h : CovRes A B p e) (h' : CovRes B A q f) : e = 0 ∧ f = 0 ∧ (p && q) = decide (A = B) := by
  rcases h with ⟨h, _⟩ | ⟨_, he, M, hM, hp⟩
  · rw [ha.vld hn, hb.vld hm] at h; simp at h
  rcases h' with ⟨h, _⟩ | ⟨_, hf, N, hN, hq⟩
  · rw [ha.vld hn, hb.vld hm] at h; simp at h
  refine ⟨he, hf, ?_⟩
  subst hp hq
  rw [Bool.eq_iff_iff, Bool.and_eq_true, decide_eq_true_eq, decide_eq_true_eq, decide_eq_true_eq, List.length_eq_zero_iff, List.length_eq_zero_iff]
  constructor
  · rintro ⟨rfl, rfl⟩
    refine ha.ext hb fun v hv => ?_
    have h1 := hM.mem v hv
    have h2 := hN.mem v hv
    revert h1 h2
    cases inL A v <;> cases inL B v <;> simp [inL]
  · rintro rfl
    refine ⟨ord_ext hM.ord Ord.nil fun v hv => ?_, ord_ext hN.ord Ord.nil fun v hv => ?_⟩
    · rw [hM.mem v hv]; cases inL A v <;> simp [inL]
    · rw [hN.mem v hv]; cases inL A v <;> simp [inL]
theorem CovRes.ok {n m : Nat} (ha : Can n A) (hb : Can m B) (hn : n ≤ 64) (hm : m ≤ 64) {p : Bool} {e : Int} (h : CovRes A B p e) : e = 0 ∧ ∀ v, okV v = true → (p && inL B v && !inL A v) = false := by
  rcases h with ⟨h, _⟩ | ⟨_, he, M, hM, hp⟩
  · rw [ha.vld hn, hb.vld hm] at h; simp at h
  refine ⟨he, fun v hv => ?_⟩
  have h1 := hM.mem v hv
  subst hp
  by_cases hl : M.length = 0
  · rw [List.length_eq_zero_iff] at hl
    subst hl
    revert h1
    cases inL A v <;> cases inL B v <;> simp [inL]
  · simp [hl]
theorem once_eq {n : Nat} (ha : Can n A) (h1 : IsOp kNot A B X) (h2 : IsOp kAnd A B L) (h3 : IsOp kOr X L M) : M = A :=
  ord_ext h3.ord ha.ord fun v hv => by rw [h3.mem v hv, h1.mem v hv, h2.mem v hv]; cases inL A v <;> cases inL B v <;> rfl

/-! ### The laws of a Boolean algebra -/
theorem alg_not (ha : Ord A) (h1 : IsOp kNot allL A L) (h2 : IsOp kNot allL L M) : M = A :=
  ord_ext h2.ord ha fun v hv => by rw [h2.mem v hv, h1.mem v hv, allL_in hv]; cases inL A v <;> rfl
theorem alg_comm (h1 : IsOp kOr A B L) (h2 : IsOp kOr B A M) : L = M :=
  ord_ext h1.ord h2.ord fun v hv => by rw [h2.mem v hv, h1.mem v hv]; cases inL A v <;> cases inL B v <;> rfl
theorem alg_absorb (ha : Ord A) (h1 : IsOp kOr A B L) (h2 : IsOp kAnd A L M) : M = A :=
  ord_ext h2.ord ha fun v hv => by rw [h2.mem v hv, h1.mem v hv]; cases inL A v <;> cases inL B v <;> rfl
theorem alg_distr (h1 : IsOp kOr B X L) (h2 : IsOp kAnd A L M) (h3 : IsOp kAnd A B N) (h4 : IsOp kAnd A X P) (h5 : IsOp kOr N P Q) : M = Q :=
  ord_ext h2.ord h5.ord fun v hv => by rw [h2.mem v hv, h1.mem v hv, h5.mem v hv, h3.mem v hv, h4.mem v hv]; cases inL A v <;> cases inL B v <;> cases inL X v <;> rfl
theorem alg_morgan (h1 : IsOp kOr A B L) (h2 : IsOp kNot allL L M) (h3 : IsOp kNot allL A N) (h4 : IsOp kNot allL B P) (h5 : IsOp kAnd N P Q) : M = Q :=
  ord_ext h2.ord h5.ord fun v hv => by rw [h2.mem v hv, h1.mem v hv, h5.mem v hv, h3.mem v hv, h4.mem v hv]; cases inL allL v <;> cases inL A v <;> cases inL B v <;> rfl
theorem alg_all (h1 : IsOp kNot allL A L) (h2 : IsOp kOr A L M) : M = allL :=
  ord_ext h2.ord allL_can.ord fun v hv => by rw [h2.mem v hv, h1.mem v hv, allL_in hv]; cases inL A v <;> rfl
theorem alg_none (h1 : IsOp kNot allL A L) (h2 : IsOp kAnd A L M) : M = [] :=
  ord_ext h2.ord Ord.nil fun v hv => by rw [h2.mem v hv, h1.mem v hv, allL_in hv]; cases inL A v <;> rfl
theorem alg_assoc (h1 : IsOp kOr B X L) (h2 : IsOp kOr A L M) (h3 : IsOp kOr A B N) (h4 : IsOp kOr N X P) : M = P :=
  ord_ext h2.ord h4.ord fun v hv => by rw [h2.mem v hv, h1.mem v hv, h4.mem v hv, h3.mem v hv]; cases inL A v <;> cases inL B v <;> cases inL X v <;> rfl
/-- A value in a result. -/
theorem hasB_op {n : Nat} {k : Bool → Bool → Bool} (h : IsOp k A B L) (hc : Can n L) (hn : n ≤ 64) {v : V} (hv : okV v = true) : hasB L v = k (inL A v) (inL B v) := by
  rw [hasB, hv, hc.vld hn, h.mem v hv]; rfl
theorem hasB_can {n : Nat} (hc : Can n L) (hn : n ≤ 64) {v : V} (hv : okV v = true) : hasB L v = inL L v := by
  rw [hasB, hv, hc.vld hn]; rfl
end Go.Proofs.Ytmhgmlnnipdomaa
