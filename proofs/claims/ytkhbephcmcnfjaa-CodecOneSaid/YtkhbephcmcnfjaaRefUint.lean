/- The reference's reader of a number. -/
import Derived.Test.YtkhbephcmcnfjaaDecStart
namespace Go.Proofs.Ytkhbephcmcnfjaa
open Go.RowKit Go.Deep

theorem or_tail (acc x k : Nat) (ha : acc < 128 ^ k) (hk : k ≤ 9) (hx : x < 128) (h9 : k = 9 → x ≤ 1) : bits .or .u64 (acc : Int) (IntKind.u64.wrap ((x : Int) * 2 ^ (7 * k))) = ((acc + 128 ^ k * x : Nat) : Int) := by
  have hp : (2 : Nat) ^ (7 * k) = 128 ^ k := by rw [Nat.pow_mul]
  have hpi : (2 : Int) ^ (7 * k) = ((128 ^ k : Nat) : Int) := by rw [← hp]; simp
  have hb : 128 ^ k * x < 18446744073709551616 := by
    by_cases h : k = 9
    · have := h9 h
      subst h
      have h2 : 128 ^ 9 * x ≤ 128 ^ 9 * 1 := Nat.mul_le_mul_left _ this
      have h3 : (128 : Nat) ^ 9 = 9223372036854775808 := by decide
      omega
    · have h2 : (128 : Nat) ^ k ≤ 128 ^ 8 := Nat.pow_le_pow_right (by omega) (by omega)
      have h3 : (128 : Nat) ^ 8 = 72057594037927936 := by decide
      have h4 : 128 ^ k * x ≤ 128 ^ 8 * 127 := Nat.mul_le_mul h2 (by omega)
      omega
  have h9p : (128 : Nat) ^ k ≤ 128 ^ 9 := Nat.pow_le_pow_right (by omega) hk
  have h93 : (128 : Nat) ^ 9 = 9223372036854775808 := by decide
  rw [hpi, ← Int.natCast_mul, IntKind.wrap_u64, Nat.mul_comm x]
  rw [show (((128 ^ k * x : Nat) : Int) % 18446744073709551616) = ((128 ^ k * x : Nat) : Int) by omega, u64_or_nat _ _ (by omega) hb]
  congr 1
  rw [Nat.or_comm, nat_join (7 * k) _ _ (by rw [hp]; exact Nat.mul_mod_right _ _) (by rw [hp]; exact ha)]
  omega
theorem or_low (acc x k : Nat) (ha : acc < 128 ^ k) (hk : k ≤ 9) (hx : x < 128) (h9 : k = 9 → x ≤ 1) : bits .or .u64 (acc : Int) (IntKind.u64.wrap ((x : Int) * 2 ^ (7 * k))) = ((acc + 128 ^ k * (x % 128) : Nat) : Int) := by
  rw [Nat.mod_eq_of_lt hx]; exact or_tail acc x k ha hk hx h9
theorem or_mid (acc x k : Nat) (ha : acc < 128 ^ k) (hk : k ≤ 8) (hx : x < 256) : bits .or .u64 (acc : Int) (IntKind.u64.wrap (IntKind.u64.wrap (bits .and .u8 (x : Int) 127) * 2 ^ (7 * k))) = ((acc + 128 ^ k * (x % 128) : Nat) : Int) := by
  have h1 : bits .and .u8 (x : Int) 127 = ((x % 128 : Nat) : Int) := by
    rw [show (127 : Int) = ((127 : Nat) : Int) from rfl, u8_and_nat _ _ hx (by omega), nat_mask7]
  rw [h1, IntKind.wrap_u64 (((x % 128 : Nat)) : Int), show (((x % 128 : Nat) : Int) % 18446744073709551616) = ((x % 128 : Nat) : Int) by omega]
  exact or_tail acc (x % 128) k ha (by omega) (by omega) (by omega)

set_option maxRecDepth 100000 in
set_option maxHeartbeats 4000000 in
theorem fUint_any (v : Value) (L : List UInt8) (p : Int) (w : World) (h : Reads w v L) (hL : L.length ≤ 4398046511104) (hp0 : -9223372036854775808 ≤ p) (hp1 : p ≤ 9223372036854775807) : Calls Try.prog 41 #[v, .int .i64 p] w fun e w' => e = .returned (.tuple #[.int .u64 ((readU L p).1 : Int), .int .i64 ((readU L p).2.1 : Int), .int .i64 (readU L p).2.2]) ∧ Below w.heap.size w w' := by
  obtain ⟨a, n, c, rfl⟩ := h.form
  obtain ⟨rfl, h1, h2, hc⟩ := h.cells
  have HC := Lib.hid hc
  by_cases hp : p < 0 ∨ (L.length : Int) < p
  · have hE : readU L p = (0, 0, 1) := if_pos hp
    rw [hE]
    clear h hc hE
    by_cases h0 : p < 0
    · have d1 : decide (p < 0) = true := decide_eq_true h0
      go_enter Try.func41, Try.ntmps41
      go_wp2_with fail
      exact bodyPost_ret (v := .tuple #[.int .u64 0, .int .i64 0, .int .i64 1]) (by simp [results, Try.results41, go_sem]) rfl ⟨rfl, Below.refl _ _⟩
    · have d1 : decide (p < 0) = false := decide_eq_false h0
      have d2 : decide (p > L.length) = true := decide_eq_true (by omega)
      have d3 : decide ((L.length : Int) < p) = true := decide_eq_true (by omega)
      go_enter Try.func41, Try.ntmps41
      go_wp2_with fail
      exact bodyPost_ret (v := .tuple #[.int .u64 0, .int .i64 0, .int .i64 1]) (by simp [results, Try.results41, go_sem]) rfl ⟨rfl, Below.refl _ _⟩
  · obtain ⟨q, rfl⟩ : ∃ q : Nat, p = q := ⟨p.toNat, by omega⟩
    have hE : readU L q = match rdUint L q with | .error e => (0, 0, e) | .ok (n, q) => (n, q, 0) := if_neg hp
    have HE := Lib.hid hE
    have d1 : decide ((q : Int) < 0) = false := decide_eq_false (by omega)
    have d2 : decide ((q : Int) > L.length) = false := decide_eq_false (by omega)
    have d3 : decide ((L.length : Int) < q) = false := decide_eq_false (by omega)
    have d4 : decide (L.length < q) = false := decide_eq_false (by omega)
    have hq : q ≤ L.length := by omega
    clear h hc hE hp hp0 hp1
    go_enter Try.func41, Try.ntmps41
    go_wp2_with fail
    go_loopg [7, 8] 11 (fun g n i wr => ∃ (k : Nat) (z : Int), k ≤ 10 ∧ 11 - k ≤ g ∧ n = .int .u64 z ∧ i = .int .i64 k ∧ wr = w ∧ Hid ((k = 10 ∧ rdU 0 (L.drop q) = .error 21) ∨ (k < 10 ∧ ∃ acc : Nat, z = acc ∧ acc < 128 ^ k ∧ rdU 0 (L.drop q) = addR acc k (rdU k (L.drop (q + k))))))
    case atStart => exact ⟨0, 0, by omega, by omega, rfl, rfl, rfl, .inr ⟨by omega, 0, rfl, by decide, (addR_zero _).symm⟩⟩
    case round =>
      obtain ⟨k, z, hk, hg, rfl, rfl, rfl, hr⟩ := hrel
      have k0 : (0 : Int) ≤ k := by omega
      by_cases h10 : k = 10
      · subst h10
        have HR : Hid (readU L q = (0, 0, 21)) := by
          show _ = _
          rcases hr.out with ⟨_, hr⟩ | ⟨h, _⟩
          · rw [HE.out]
            unfold rdUint
            rw [hr]
          · omega
        clear hr
        go_wp2_with fail
        exact bodyPost_ret (v := .tuple #[.int .u64 0, .int .i64 0, .int .i64 21]) (by simp [results, Try.results41, go_sem]) rfl ⟨by rw [HR.out]; rfl, Below.refl _ _⟩
      · have k10 : (k : Int) < 10 := by omega
        obtain ⟨acc, rfl, ha0, hr0⟩ : ∃ acc : Nat, z = acc ∧ acc < 128 ^ k ∧ rdU 0 (L.drop q) = addR acc k (rdU k (L.drop (q + k))) := by
          rcases hr.out with ⟨h, _⟩ | ⟨_, h⟩
          · omega
          · exact h
        have ha := Lib.hid ha0
        have hr2 := Lib.hid hr0
        clear hr ha0 hr0
        by_cases hp : q + k < L.length
        · obtain ⟨c1, hc⟩ : ∃ c1, L[q + k] = c1 := ⟨_, rfl⟩
          obtain ⟨b1, o1, rfl, hb1, hcell⟩ := HC.out (q + k) hp
          rw [hc] at hcell
          have hd : L.drop (q + k) = c1 :: L.drop (q + (k + 1)) := by rw [List.drop_eq_getElem_cons hp, hc]; rfl
          have HD := Lib.hid hd
          obtain ⟨x, hx⟩ : ∃ x, c1.toNat = x := ⟨_, rfl⟩
          have hx2 : x < 256 := by rw [← hx]; exact c1.toNat_lt
          rw [hx] at hcell
          have HX := Lib.hid hx
          clear hd hc hx
          have e1 : ((q : Int) + k).toNat = q + k := by omega
          have e2 : (0 : Int) ≤ (q : Int) + k := by omega
          have e3 : (q : Int) + k < L.length := by omega
          by_cases h128 : x < 128
          · have hx128 : (x : Int) < 128 := by omega
            have dx : decide ((x : Int) < 128) = true := decide_eq_true hx128
            by_cases h0 : x = 0
            · have x0 : ((x : Int) == 0) = true := by simp; omega
              by_cases hk0 : k = 0
              · have k9 : ((k : Int) == 9) = false := by simp; omega
                have k9' : ¬ (k : Int) = 9 := by omega
                have hkp : ¬ 0 < k := by omega
                have hkpi : ¬ (0 : Int) < k := by omega
                have dk : decide ((0 : Int) < k) = false := decide_eq_false hkpi
                have HR : Hid (readU L q = (acc + 128 ^ k * (x % 128), q + (k + 1), 0)) := by
                  show _ = _
                  rw [HE.out]
                  unfold rdUint
                  rw [hr2.out, HD.out, rdU, HX.out, if_pos (by omega), if_neg (by omega), Nat.mod_eq_of_lt (by omega)]
                  rfl
                have HZ := Lib.hid (or_low acc x k ha.out (by omega) h128 (by omega))
                clear HD HE hr2 h0 hk0
                go_wp2_with fail
                refine bodyPost_ret (v := .tuple #[.int .u64 _, .int .i64 ((q : Int) + k + 1), .int .i64 0]) (by simp [results, Try.results41, go_sem]; rfl) rfl ⟨?_, Below.refl _ _⟩
                rw [HZ.out, HR.out]
                rfl
              · have hkp : 0 < k := by omega
                have hkpi : (0 : Int) < k := by omega
                have dk : decide ((0 : Int) < k) = true := decide_eq_true hkpi
                have HR : Hid (readU L q = (0, 0, 21)) := by
                  show _ = _
                  rw [HE.out]
                  unfold rdUint
                  rw [hr2.out, HD.out, rdU, HX.out, if_pos (by omega), if_pos (.inl ⟨h0, hkp⟩)]
                  rfl
                clear HD HE hr2 h0
                go_wp2_with fail
                exact bodyPost_ret (v := .tuple #[.int .u64 0, .int .i64 0, .int .i64 21]) (by simp [results, Try.results41, go_sem]) rfl ⟨by rw [HR.out]; rfl, Below.refl _ _⟩
            · have x0 : ((x : Int) == 0) = false := by simp; omega
              have x0' : ¬ (x : Int) = 0 := by omega
              by_cases hk9 : k = 9
              · have k9 : ((k : Int) == 9) = true := by simp; omega
                by_cases h1x : 1 < x
                · have hx1i : (1 : Int) < x := by omega
                  have dx1 : decide ((1 : Int) < x) = true := decide_eq_true hx1i
                  have HR : Hid (readU L q = (0, 0, 21)) := by
                    show _ = _
                    rw [HE.out]
                    unfold rdUint
                    rw [hr2.out, HD.out, rdU, HX.out, if_pos (by omega), if_pos (.inr ⟨hk9, h1x⟩)]
                    rfl
                  clear HD HE hr2 hk9
                  go_wp2_with fail
                  exact bodyPost_ret (v := .tuple #[.int .u64 0, .int .i64 0, .int .i64 21]) (by simp [results, Try.results41, go_sem]) rfl ⟨by rw [HR.out]; rfl, Below.refl _ _⟩
                · have hx1i : ¬ (1 : Int) < x := by omega
                  have dx1 : decide ((1 : Int) < x) = false := decide_eq_false hx1i
                  have HR : Hid (readU L q = (acc + 128 ^ k * (x % 128), q + (k + 1), 0)) := by
                    show _ = _
                    rw [HE.out]
                    unfold rdUint
                    rw [hr2.out, HD.out, rdU, HX.out, if_pos (by omega), if_neg (by omega), Nat.mod_eq_of_lt (by omega)]
                    rfl
                  have HZ := Lib.hid (or_low acc x k ha.out (by omega) h128 (by omega))
                  clear HD HE hr2 hk9
                  go_wp2_with fail
                  refine bodyPost_ret (v := .tuple #[.int .u64 _, .int .i64 ((q : Int) + k + 1), .int .i64 0]) (by simp [results, Try.results41, go_sem]; rfl) rfl ⟨?_, Below.refl _ _⟩
                  rw [HZ.out, HR.out]
                  rfl
              · have k9 : ((k : Int) == 9) = false := by simp; omega
                have k9' : ¬ (k : Int) = 9 := by omega
                have HR : Hid (readU L q = (acc + 128 ^ k * (x % 128), q + (k + 1), 0)) := by
                  show _ = _
                  rw [HE.out]
                  unfold rdUint
                  rw [hr2.out, HD.out, rdU, HX.out, if_pos (by omega), if_neg (by omega), Nat.mod_eq_of_lt (by omega)]
                  rfl
                have HZ := Lib.hid (or_low acc x k ha.out (by omega) h128 (by omega))
                clear HD HE hr2
                go_wp2_with fail
                refine bodyPost_ret (v := .tuple #[.int .u64 _, .int .i64 ((q : Int) + k + 1), .int .i64 0]) (by simp [results, Try.results41, go_sem]; rfl) rfl ⟨?_, Below.refl _ _⟩
                rw [HZ.out, HR.out]
                rfl
          · have hx128 : ¬ (x : Int) < 128 := by omega
            have dx : decide ((x : Int) < 128) = false := decide_eq_false hx128
            have HN : Hid ((k + 1 = 10 ∧ rdU 0 (L.drop q) = .error 21) ∨ (k + 1 < 10 ∧ ∃ acc' : Nat, bits .or .u64 (acc : Int) (IntKind.u64.wrap (IntKind.u64.wrap (bits .and .u8 (x : Int) 127) * 2 ^ (7 * k))) = acc' ∧ acc' < 128 ^ (k + 1) ∧ rdU 0 (L.drop q) = addR acc' (k + 1) (rdU (k + 1) (L.drop (q + (k + 1)))))) := by
              by_cases hk9 : k = 9
              · refine .inl ⟨by omega, ?_⟩
                rw [hr2.out, HD.out, rdU, HX.out, if_neg h128, if_pos hk9]
                rfl
              · refine .inr ⟨by omega, acc + 128 ^ k * (x % 128), or_mid acc x k ha.out (by omega) hx2, ?_, ?_⟩
                · have h1 := ha.out
                  have h3 : 128 ^ k * (x % 128) ≤ 128 ^ k * 127 := Nat.mul_le_mul_left _ (by omega)
                  rw [Nat.pow_succ]
                  omega
                · rw [hr2.out, HD.out, addR_step acc k c1 _ (by rw [HX.out]; omega) hk9, HX.out, show x % 128 = x - 128 by omega]
            clear HD HE hr2
            go_wp2_with fail
            go_roundg (11 - (k + 1))
            case measure => omega
            case rel => exact ⟨k + 1, _, by omega, Nat.le_refl _, rfl, by go_num, rfl, HN⟩
        · have e3 : ¬ (q : Int) + k < L.length := by omega
          have e4 : (L.length : Int) ≤ q + k := by omega
          have HD : Hid (L.drop (q + k) = []) := List.drop_eq_nil_iff.2 (by omega)
          have HR : Hid (readU L q = (0, 0, 20)) := by
            show _ = _
            rw [HE.out]
            unfold rdUint
            rw [hr2.out, HD.out]
            rfl
          clear HD HE hr2
          go_wp2_with fail
          exact bodyPost_ret (v := .tuple #[.int .u64 0, .int .i64 0, .int .i64 20]) (by simp [results, Try.results41, go_sem]) rfl ⟨by rw [HR.out]; rfl, Below.refl _ _⟩
end Go.Proofs.Ytkhbephcmcnfjaa
