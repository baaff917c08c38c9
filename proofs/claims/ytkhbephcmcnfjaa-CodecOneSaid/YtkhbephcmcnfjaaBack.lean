/- What was written is read back, and a proper prefix is cut: lists alone. -/
import Derived.Test.YtkhbephcmcnfjaaReadVal
import Derived.Test.YtkhbephcmcnfjaaReadText
import Derived.Test.YtkhbephcmcnfjaaDecRow
import Derived.Test.YtkhbephcmcnfjaaPutRow
namespace Go.Proofs.Ytkhbephcmcnfjaa
open Go.RowKit Go.Deep

theorem byte_nat (n : Nat) (h : n < 256) : (UInt8.ofNat n).toNat = n := by simp; omega

theorem rdU_leb : ∀ (n k : Nat) (M : List UInt8), k ≤ 9 → n < 2 ^ (64 - 7 * k) → (0 < k → 0 < n) → rdU k (leb n ++ M) = .ok (n, (leb n).length)
  | n, k, M, hk, hn, hp => by
    by_cases h : n < 128
    · rw [leb_small h]
      have h1 := byte_nat n (by omega)
      have h9 : k = 9 → n < 2 := fun e => by subst e; simpa using hn
      simp only [List.cons_append, List.nil_append, rdU, h1, if_pos h, List.length_cons, List.length_nil]
      rw [if_neg (by omega)]
    · rw [leb_more h]
      have h1 := byte_nat (n % 128 + 128) (by omega)
      have h9 : k ≠ 9 := fun e => by subst e; simp at hn; omega
      have hd : n / 128 < 2 ^ (64 - 7 * (k + 1)) := by
        refine Nat.div_lt_of_lt_mul ?_
        have e : 64 - 7 * k = 7 + (64 - 7 * (k + 1)) := by omega
        rw [e, Nat.pow_add] at hn
        exact hn
      have ih := rdU_leb (n / 128) (k + 1) M (by omega) hd (fun _ => by omega)
      simp only [List.cons_append, rdU, h1]
      rw [if_neg (by omega), if_neg h9, ih]
      simp only [List.length_cons, Except.ok.injEq, Prod.mk.injEq, and_true]
      omega
termination_by n => n
decreasing_by omega

theorem rdU_cut : ∀ (n k j : Nat), j < (leb n).length → k ≤ 9 → n < 2 ^ (64 - 7 * k) → rdU k ((leb n).take j) = .error 20
  | n, k, 0, _, _, _ => by simp [rdU]
  | n, k, j + 1, hj, hk, hn => by
    by_cases h : n < 128
    · rw [leb_small h] at hj; simp at hj
    · rw [leb_more h] at hj ⊢
      have h1 := byte_nat (n % 128 + 128) (by omega)
      have h9 : k ≠ 9 := fun e => by subst e; simp at hn; omega
      have hd : n / 128 < 2 ^ (64 - 7 * (k + 1)) := by
        refine Nat.div_lt_of_lt_mul ?_
        have e : 64 - 7 * k = 7 + (64 - 7 * (k + 1)) := by omega
        rw [e, Nat.pow_add] at hn
        exact hn
      have ih := rdU_cut (n / 128) (k + 1) j (by simpa using hj) (by omega) hd
      simp only [List.take_succ_cons, rdU, h1]
      rw [if_neg (by omega), if_neg h9, ih]
termination_by n => n
decreasing_by omega

theorem rdUint_leb {L M : List UInt8} {p n : Nat} (h : L.drop p = leb n ++ M) (hn : n ≤ 18446744073709551615) : rdUint L p = .ok (n, p + (leb n).length) := by
  unfold rdUint
  rw [h, rdU_leb n 0 M (by omega) (by omega) (by omega)]
theorem rdUint_cut {L : List UInt8} {p n j : Nat} (h : L.drop p = (leb n).take j) (hj : j < (leb n).length) (hn : n ≤ 18446744073709551615) : rdUint L p = .error 20 := by
  unfold rdUint
  rw [h, rdU_cut n 0 j hj (by omega) (by omega)]

theorem drop_on {L X M : List UInt8} {p : Nat} (h : L.drop p = X ++ M) : L.drop (p + X.length) = M := by
  rw [← List.drop_drop, h, List.drop_left]
theorem drop_len {L X : List UInt8} {q : Nat} (h : L.drop q = X) : L.length - q = X.length := by rw [← h, List.length_drop]

/-- A cut of two texts one after the other: it falls into the first, or into the second. -/
theorem take_two (X Y : List UInt8) (j : Nat) : (j < X.length ∧ (X ++ Y).take j = X.take j) ∨ (X.length ≤ j ∧ (X ++ Y).take j = X ++ Y.take (j - X.length)) := by
  by_cases h : j < X.length
  · exact .inl ⟨h, by rw [List.take_append_of_le_length (by omega)]⟩
  · exact .inr ⟨by omega, by rw [List.take_append, List.take_of_length_le (by omega)]⟩

theorem rdText_leb {L M : List UInt8} {p most : Nat} {s : List UInt8} (h : L.drop p = leb s.length ++ (s ++ M)) (hs : s.length ≤ most) (hn : s.length ≤ 18446744073709551615) : rdText L p most = .ok (s, p + (leb s.length).length + s.length) := by
  unfold rdText
  rw [rdUint_leb h hn]
  have h2 := drop_on h
  have h3 := drop_len h2
  rw [List.length_append] at h3
  simp only
  rw [if_neg (by omega), if_neg (by omega), h2, List.take_left]
theorem rdText_cut {L : List UInt8} {p most j : Nat} {s : List UInt8} (h : L.drop p = (leb s.length ++ s).take j) (hj : j < (leb s.length ++ s).length) (hs : s.length ≤ most) (hn : s.length ≤ 18446744073709551615) : rdText L p most = .error 20 := by
  unfold rdText
  rw [List.length_append] at hj
  rcases take_two (leb s.length) s j with ⟨h1, h2⟩ | ⟨h1, h2⟩
  · rw [h2] at h
    rw [rdUint_cut h h1 hn]
  · rw [h2] at h
    rw [rdUint_leb h hn]
    have h3 := drop_len (drop_on h)
    rw [List.length_take] at h3
    simp only
    rw [if_neg (by omega), if_pos (by omega)]

theorem unzz_zz (n : Int) : unzz (zz n) = n := by
  unfold unzz zz
  split <;> split <;> omega

theorem at_head {L M : List UInt8} {p : Nat} {c : UInt8} (h : L.drop p = c :: M) : L[p]? = some c ∧ L.drop (p + 1) = M := by
  refine ⟨?_, ?_⟩
  · have := List.getElem?_drop (xs := L) (i := p) (j := 0)
    rw [h] at this
    simpa using this.symm
  · rw [← List.drop_drop, h]; rfl
theorem at_none {L : List UInt8} {p : Nat} (h : L.drop p = []) : L[p]? = none := by
  have := List.drop_eq_nil_iff.1 h
  exact List.getElem?_eq_none this

theorem txt_back (s : ByteArray) : (⟨(txt s).toArray⟩ : ByteArray) = s := by
  cases s; simp [txt]

theorem rdV_enc {L M : List UInt8} {p : Nat} {v : V} (h : L.drop p = encV v ++ M) (hv : vldB v.k v.n v.s = true) (hr : InR v) : rdV L p = .ok (v, p + (encV v).length) := by
  obtain ⟨k, n, s⟩ := v
  rcases (vld_cases k n s).1 hv with ⟨hk, rfl, rfl⟩ | ⟨rfl, hn01, rfl⟩ | ⟨rfl, rfl⟩ | ⟨rfl, rfl, hs⟩
  · rcases hk with rfl | rfl
    all_goals
      simp [encV] at h
      obtain ⟨h1, _⟩ := at_head h
      unfold rdV
      simp [h1, encV]
  · rcases hn01 with rfl | rfl
    all_goals
      simp [encV] at h
      obtain ⟨h1, h2⟩ := at_head h
      obtain ⟨h3, _⟩ := at_head h2
      unfold rdV
      simp [h1, h3, encV]
  · simp [encV] at h
    obtain ⟨h1, h2⟩ := at_head h
    have h3 := rdUint_leb h2 (zz_le n hr.1 hr.2)
    unfold rdV
    simp [h1, h3, encV, unzz_zz]
    omega
  · simp [encV] at h
    obtain ⟨h1, h2⟩ := at_head h
    rw [← txt_len s] at h2
    have h3 := rdText_leb (most := 64) h2 (by rw [txt_len]; exact hs) (by rw [txt_len]; omega)
    unfold rdV
    simp [h1, h3, encV, txt_back, txt_len]
    omega

theorem rdV_cut {L : List UInt8} {p j : Nat} {v : V} (h : L.drop p = (encV v).take j) (hj : j < (encV v).length) (hv : vldB v.k v.n v.s = true) (hr : InR v) : rdV L p = .error 20 := by
  cases j with
  | zero =>
    have := at_none (by simpa using h)
    unfold rdV
    rw [this]
  | succ j =>
    obtain ⟨k, n, s⟩ := v
    rcases (vld_cases k n s).1 hv with ⟨hk, rfl, rfl⟩ | ⟨rfl, hn01, rfl⟩ | ⟨rfl, rfl⟩ | ⟨rfl, rfl, hs⟩
    · rcases hk with rfl | rfl
      all_goals simp [encV] at hj
    · simp [encV] at hj
      obtain rfl : j = 0 := by omega
      simp [encV] at h
      obtain ⟨h1, h2⟩ := at_head h
      have h3 := at_none h2
      unfold rdV
      simp [h1, h3]
    · simp [encV] at h hj
      obtain ⟨h1, h2⟩ := at_head h
      have h3 := rdUint_cut h2 hj (zz_le n hr.1 hr.2)
      unfold rdV
      simp [h1, h3]
    · have hj2 : j < (leb (txt s).length ++ txt s).length := by simp [encV, txt_len] at hj ⊢; exact hj
      have h' : L.drop p = UInt8.ofNat 5 :: (leb (txt s).length ++ txt s).take j := by rw [txt_len]; rw [h]; rfl
      obtain ⟨h1, h2⟩ := at_head h'
      have h3 := rdText_cut (most := 64) h2 hj2 (by rw [txt_len]; exact hs) (by rw [txt_len]; omega)
      unfold rdV
      simp [h1, h3]

theorem rdVs_enc : ∀ (l : List V) {L M : List UInt8} {p : Nat}, L.drop p = encL l ++ M → vldL l = true → (∀ v ∈ l, InR v) → rdVs L l.length p = .ok (l, p + (encL l).length)
  | [], L, M, p, _, _, _ => by simp [rdVs, encL]
  | v :: l, L, M, p, h, hv, hr => by
    simp only [vldL, List.all_cons, Bool.and_eq_true] at hv
    simp only [encL, List.append_assoc] at h
    have h1 := rdV_enc h hv.1 (hr v (List.mem_cons_self ..))
    have h2 := rdVs_enc l (drop_on h) hv.2 (fun u hu => hr u (List.mem_cons_of_mem _ hu))
    simp only [List.length_cons, rdVs, h1, h2, encL, List.length_append]
    congr 2
    omega
theorem rdVs_cut : ∀ (l : List V) {L : List UInt8} {p j : Nat}, L.drop p = (encL l).take j → j < (encL l).length → vldL l = true → (∀ v ∈ l, InR v) → rdVs L l.length p = .error 20
  | [], L, p, j, _, hj, _, _ => by simp [encL] at hj
  | v :: l, L, p, j, h, hj, hv, hr => by
    simp only [vldL, List.all_cons, Bool.and_eq_true] at hv
    simp only [encL, List.length_append] at h hj
    rcases take_two (encV v) (encL l) j with ⟨h1, h2⟩ | ⟨h1, h2⟩
    · rw [h2] at h
      have := rdV_cut h h1 hv.1 (hr v (List.mem_cons_self ..))
      simp only [List.length_cons, rdVs, this]
    · rw [h2] at h
      have h3 := rdV_enc h hv.1 (hr v (List.mem_cons_self ..))
      have h4 := rdVs_cut l (drop_on h) (by omega) hv.2 (fun u hu => hr u (List.mem_cons_of_mem _ hu))
      simp only [List.length_cons, rdVs, h3, h4]

theorem rdRow_enc {L M : List UInt8} {p : Nat} {l : List V} (h : L.drop p = leb l.length ++ (encL l ++ M)) (hl : l.length ≤ 12) (hv : vldL l = true) (hr : ∀ v ∈ l, InR v) : rdRow L p = .ok (l, p + (leb l.length ++ encL l).length) := by
  unfold rdRow
  rw [rdUint_leb h (by omega)]
  simp only
  rw [if_neg (by omega), rdVs_enc l (drop_on h) hv hr, List.length_append]
  congr 2
  omega
theorem rdRow_cut {L : List UInt8} {p j : Nat} {l : List V} (h : L.drop p = (leb l.length ++ encL l).take j) (hj : j < (leb l.length ++ encL l).length) (hl : l.length ≤ 12) (hv : vldL l = true) (hr : ∀ v ∈ l, InR v) : rdRow L p = .error 20 := by
  unfold rdRow
  rw [List.length_append] at hj
  rcases take_two (leb l.length) (encL l) j with ⟨h1, h2⟩ | ⟨h1, h2⟩
  · rw [h2] at h
    rw [rdUint_cut h h1 (by omega)]
  · rw [h2] at h
    rw [rdUint_leb h (by omega)]
    simp only
    rw [if_neg (by omega), rdVs_cut l (drop_on h) (by omega) hv hr]
end Go.Proofs.Ytkhbephcmcnfjaa
