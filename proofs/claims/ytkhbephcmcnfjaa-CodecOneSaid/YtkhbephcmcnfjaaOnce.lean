/- What was read is written as the bytes it was read from: lists alone. -/
import Derived.Test.YtkhbephcmcnfjaaBack
import Derived.Test.YtkhbephcmcnfjaaDecInt
import Derived.Test.YtkhbephcmcnfjaaRefRow
namespace Go.Proofs.Ytkhbephcmcnfjaa
open Go.RowKit Go.Deep

/-- From p to q stands X. -/
def Wr (L : List UInt8) (p : Nat) (X : List UInt8) (q : Nat) : Prop := L.drop p = X ++ L.drop q ∧ q = p + X.length
theorem Wr.trans {L X Y : List UInt8} {p q r : Nat} (h : Wr L p X q) (k : Wr L q Y r) : Wr L p (X ++ Y) r :=
  ⟨by rw [h.1, k.1, List.append_assoc], by rw [k.2, h.2, List.length_append]; omega⟩
theorem Wr.refl (L : List UInt8) (p : Nat) : Wr L p [] p := ⟨rfl, rfl⟩
theorem Wr.cons {L X : List UInt8} {p q : Nat} {c : UInt8} (hc : L[p]? = some c) (k : Wr L (p + 1) X q) : Wr L p (c :: X) q := by
  obtain ⟨hp, e⟩ := List.getElem?_eq_some_iff.1 hc
  refine ⟨?_, by rw [k.2, List.length_cons]; omega⟩
  rw [List.drop_eq_getElem_cons hp, e, k.1]
  rfl
theorem Wr.take {L X : List UInt8} {q : Nat} (h : Wr L 0 X q) : L.take q = X ∧ q ≤ L.length := by
  have h1 := h.1
  have h2 := h.2
  rw [List.drop_zero] at h1
  rw [Nat.zero_add] at h2
  refine ⟨?_, ?_⟩
  · rw [h1, h2, List.take_left]
  · rw [h1, List.length_append]; omega

theorem ofNat_toNat (c : UInt8) : UInt8.ofNat c.toNat = c := by simp

theorem rdU_back : ∀ (M : List UInt8) (k n j : Nat), rdU k M = .ok (n, j) → (0 < k → 0 < n) ∧ M = leb n ++ M.drop j ∧ j = (leb n).length
  | [], k, n, j, h => by simp [rdU] at h
  | c :: M, k, n, j, h => by
    have hc := c.toNat_lt
    by_cases h1 : c.toNat < 128
    · simp only [rdU, if_pos h1] at h
      split at h
      · simp at h
      · rename_i h2
        simp only [Except.ok.injEq, Prod.mk.injEq] at h
        obtain ⟨rfl, rfl⟩ := h
        refine ⟨fun hk => by omega, ?_, ?_⟩
        · rw [leb_small h1, ofNat_toNat]; rfl
        · rw [leb_small h1]; rfl
    · simp only [rdU, if_neg h1] at h
      split at h
      · simp at h
      · split at h
        · simp at h
        · rename_i n' j' h3
          simp only [Except.ok.injEq, Prod.mk.injEq] at h
          obtain ⟨rfl, rfl⟩ := h
          obtain ⟨p1, p2, p3⟩ := rdU_back M (k + 1) n' j' h3
          have p0 := p1 (by omega)
          have e1 : (c.toNat - 128 + 128 * n') / 128 = n' := by omega
          have e2 : (c.toNat - 128 + 128 * n') % 128 + 128 = c.toNat := by omega
          refine ⟨fun _ => by omega, ?_, ?_⟩
          · rw [leb_more (by omega), e1, e2, ofNat_toNat, List.drop_succ_cons, List.cons_append, ← p2]
          · rw [leb_more (by omega), e1, List.length_cons, ← p3]

theorem rdUint_back {L : List UInt8} {p n q : Nat} (h : rdUint L p = .ok (n, q)) : Wr L p (leb n) q := by
  unfold rdUint at h
  split at h
  · simp at h
  · rename_i n' j h1
    simp only [Except.ok.injEq, Prod.mk.injEq] at h
    obtain ⟨rfl, rfl⟩ := h
    obtain ⟨-, p2, p3⟩ := rdU_back _ _ _ _ h1
    rw [List.drop_drop] at p2
    exact ⟨p2, by rw [p3]⟩

theorem rdText_back {L : List UInt8} {p most q : Nat} {s : List UInt8} (h : rdText L p most = .ok (s, q)) : s.length ≤ most ∧ Wr L p (leb s.length ++ s) q := by
  unfold rdText at h
  split at h
  · simp at h
  · rename_i n r h1
    split at h
    · simp at h
    · split at h
      · simp at h
      · rename_i h2 h3
        simp only [Except.ok.injEq, Prod.mk.injEq] at h
        obtain ⟨rfl, rfl⟩ := h
        have hl : ((L.drop r).take n).length = n := by rw [List.length_take, List.length_drop]; omega
        rw [hl]
        refine ⟨by omega, (rdUint_back h1).trans ⟨?_, by rw [hl]⟩⟩
        rw [← List.drop_drop, List.take_append_drop]

theorem zz_unzz (n : Nat) : zz (unzz n) = n := by
  unfold unzz zz
  split <;> split <;> omega

theorem rdV_back {L : List UInt8} {p q : Nat} {v : V} (h : rdV L p = .ok (v, q)) : vldB v.k v.n v.s = true ∧ InR v ∧ Wr L p (encV v) q := by
  unfold rdV at h
  split at h
  · simp at h
  · rename_i c hc
    split at h
    · rename_i h1
      simp only [Except.ok.injEq, Prod.mk.injEq] at h
      obtain ⟨rfl, rfl⟩ := h
      refine ⟨?_, ⟨by show (-9223372036854775808 : Int) ≤ 0; decide, by show (0 : Int) ≤ 9223372036854775807; decide⟩, ?_⟩
      · rw [vld_cases]; exact .inl ⟨by show (c.toNat : Int) = 1 ∨ (c.toNat : Int) = 2; omega, rfl, rfl⟩
      · have e : encV ⟨(c.toNat : Int), 0, ⟨#[]⟩⟩ = [c] := by
          unfold encV
          simp only [Int.toNat_natCast, ofNat_toNat]
          rw [if_neg (by omega), if_neg (by omega), if_neg (by omega)]
        rw [e]
        exact Wr.cons hc (Wr.refl _ _)
    · split at h
      · rename_i h1 h2
        split at h
        · simp at h
        · rename_i b hb
          split at h
          · rename_i h3
            simp only [Except.ok.injEq, Prod.mk.injEq] at h
            obtain ⟨rfl, rfl⟩ := h
            refine ⟨?_, ⟨by show (-9223372036854775808 : Int) ≤ (b.toNat : Int); omega, by show (b.toNat : Int) ≤ 9223372036854775807; omega⟩, ?_⟩
            · rw [vld_cases]; exact .inr (.inl ⟨rfl, by show (b.toNat : Int) = 0 ∨ (b.toNat : Int) = 1; omega, rfl⟩)
            · have e : encV ⟨3, (b.toNat : Int), ⟨#[]⟩⟩ = [c, b] := by
                unfold encV
                simp only [Int.toNat_natCast, ofNat_toNat, if_true]
                rw [← ofNat_toNat c, h2]; rfl
              rw [e]
              exact Wr.cons hc (Wr.cons hb (Wr.refl _ _))
          · simp at h
      · split at h
        · rename_i h1 h2 h3
          split at h
          · simp at h
          · rename_i n r hn
            simp only [Except.ok.injEq, Prod.mk.injEq] at h
            obtain ⟨rfl, rfl⟩ := h
            have hlt := rdUint_lt hn
            refine ⟨?_, unzz_range n hlt, ?_⟩
            · rw [vld_cases]; exact .inr (.inr (.inl ⟨rfl, rfl⟩))
            · have e : encV ⟨4, unzz n, ⟨#[]⟩⟩ = c :: leb n := by
                unfold encV
                simp only [zz_unzz]
                rw [if_neg (by decide), if_pos trivial, ← ofNat_toNat c, h3]; rfl
              rw [e]
              exact Wr.cons hc (rdUint_back hn)
        · split at h
          · rename_i h1 h2 h3 h4
            split at h
            · simp at h
            · rename_i s r hs
              simp only [Except.ok.injEq, Prod.mk.injEq] at h
              obtain ⟨rfl, rfl⟩ := h
              obtain ⟨b1, b2⟩ := rdText_back hs
              refine ⟨?_, ⟨by show (-9223372036854775808 : Int) ≤ 0; decide, by show (0 : Int) ≤ 9223372036854775807; decide⟩, ?_⟩
              · rw [vld_cases]; exact .inr (.inr (.inr ⟨rfl, rfl, by show s.toArray.size ≤ 64; simpa using b1⟩))
              · have e : encV ⟨5, 0, ⟨s.toArray⟩⟩ = c :: (leb s.length ++ s) := by
                  unfold encV
                  rw [if_neg (by show ¬ (5 : Int) = 3; decide), if_neg (by show ¬ (5 : Int) = 4; decide), if_pos rfl, ← ofNat_toNat c, h4]
                  have : (ByteArray.mk s.toArray).size = s.length := by show s.toArray.size = _; simp
                  rw [this]
                  simp [txt]
                rw [e]
                exact Wr.cons hc b2
          · simp at h

theorem rdVs_back : ∀ (n : Nat) {L : List UInt8} {p q : Nat} {l : List V}, rdVs L n p = .ok (l, q) → l.length = n ∧ vldL l = true ∧ (∀ v ∈ l, InR v) ∧ Wr L p (encL l) q
  | 0, L, p, q, l, h => by
    simp only [rdVs, Except.ok.injEq, Prod.mk.injEq] at h
    obtain ⟨rfl, rfl⟩ := h
    exact ⟨rfl, rfl, by simp, Wr.refl _ _⟩
  | n + 1, L, p, q, l, h => by
    simp only [rdVs] at h
    split at h
    · simp at h
    · rename_i v r h1
      split at h
      · simp at h
      · rename_i m t h2
        simp only [Except.ok.injEq, Prod.mk.injEq] at h
        obtain ⟨rfl, rfl⟩ := h
        obtain ⟨a1, a2, a3⟩ := rdV_back h1
        obtain ⟨c1, c2, c3, c4⟩ := rdVs_back n h2
        refine ⟨by simp [c1], ?_, ?_, a3.trans c4⟩
        · simp only [vldL, List.all_cons, a1, Bool.true_and]; exact c2
        · intro u hu
          rcases List.mem_cons.1 hu with rfl | hu
          · exact a2
          · exact c3 u hu

theorem rdRow_back {L : List UInt8} {p q : Nat} {l : List V} (h : rdRow L p = .ok (l, q)) : l.length ≤ 12 ∧ vldL l = true ∧ (∀ v ∈ l, InR v) ∧ Wr L p (leb l.length ++ encL l) q := by
  unfold rdRow at h
  split at h
  · simp at h
  · rename_i n r h1
    split at h
    · simp at h
    · rename_i h2
      obtain ⟨rfl, c2, c3, c4⟩ := rdVs_back n h
      exact ⟨by omega, c2, c3, (rdUint_back h1).trans c4⟩

/-- A row read at the start: an error and nothing, or a row that is written as what it was read from. -/
theorem readR_back (L : List UInt8) : (∃ e, e ≠ 0 ∧ readR L 0 = ([], 0, e)) ∨ ∃ l q, readR L 0 = (l, q, 0) ∧ q ≤ L.length ∧ rowErr l = 0 ∧ rowOut [] l = L.take q ∧ (∀ v ∈ l, InR v) := by
  unfold readR
  rw [if_neg (by omega), show (0 : Int).toNat = 0 from rfl]
  cases h : rdRow L 0 with
  | error e =>
    refine .inl ⟨e, ?_, rfl⟩
    unfold rdRow at h
    split at h
    · rename_i h1
      obtain rfl := Except.error.inj h
      rcases rdUint_err h1 with rfl | rfl <;> decide
    · split at h
      · obtain rfl := Except.error.inj h; decide
      · exact rdVs_err h
  | ok x =>
    obtain ⟨l, q⟩ := x
    obtain ⟨a1, a2, a3, a4⟩ := rdRow_back h
    obtain ⟨b1, b2⟩ := a4.take
    refine .inr ⟨l, q, rfl, b2, ?_, ?_, a3⟩
    · unfold rowErr; rw [if_neg (by omega), if_pos a2]
    · unfold rowOut; rw [if_neg (by omega), if_pos a2, b1]; rfl
end Go.Proofs.Ytkhbephcmcnfjaa
