/- The decoder's numbers. -/
import Derived.Test.YtkhbephcmcnfjaaDec
namespace Go.Proofs.Ytkhbephcmcnfjaa
open Go.RowKit Go.Deep

/-- What is read as a number from these bytes on, of which k were read: its groups from there on, and how many bytes. -/
def rdU : Nat → List UInt8 → Except Int (Nat × Nat)
  | _, [] => .error 20
  | k, c :: M => if c.toNat < 128 then (if (c.toNat = 0 ∧ 0 < k) ∨ (k = 9 ∧ 1 < c.toNat) then .error 21 else .ok (c.toNat, 1))
    else if k = 9 then .error 21 else match rdU (k + 1) M with
      | .error e => .error e
      | .ok (n, j) => .ok (c.toNat - 128 + 128 * n, j + 1)
def addR (a k : Nat) : Except Int (Nat × Nat) → Except Int (Nat × Nat)
  | .error e => .error e
  | .ok (n, j) => .ok (a + 128 ^ k * n, k + j)
theorem addR_zero (r : Except Int (Nat × Nat)) : addR 0 0 r = r := by
  cases r with
  | error e => rfl
  | ok x => obtain ⟨n, j⟩ := x; simp [addR]
set_option maxRecDepth 100000 in
theorem addR_step (a k : Nat) (c : UInt8) (M : List UInt8) (h : ¬ c.toNat < 128) (hk : k ≠ 9) : addR a k (rdU k (c :: M)) = addR (a + 128 ^ k * (c.toNat - 128)) (k + 1) (rdU (k + 1) M) := by
  rw [rdU, if_neg h, if_neg hk]
  cases rdU (k + 1) M with
  | error e => rfl
  | ok x =>
    obtain ⟨n, j⟩ := x
    simp only [addR, Except.ok.injEq, Prod.mk.injEq]
    refine ⟨?_, by omega⟩
    rw [Nat.mul_add, Nat.pow_succ, Nat.add_assoc, Nat.mul_assoc]
/-- The number at a place, and the place behind it. -/
def rdUint (L : List UInt8) (p : Nat) : Except Int (Nat × Nat) := match rdU 0 (L.drop p) with
  | .error e => .error e
  | .ok (n, j) => .ok (n, p + j)
def retU : Except Int (Nat × Nat) → Except Int (Value × Nat)
  | .error e => .error e
  | .ok (n, j) => .ok (.int .u64 (n : Int), j)

theorem or_group (acc x k sh : Nat) (ha : acc < 128 ^ k) (hs : sh = 7 * k) (hk : k ≤ 9) (hx : x < 256) (h9 : k = 9 → x ≤ 1) :
    bits .or .u64 (acc : Int) (IntKind.u64.wrap (IntKind.u64.wrap (bits .andNot .u8 (x : Int) 128) * 2 ^ sh)) = ((acc + 128 ^ k * (x % 128) : Nat) : Int) := by
  have hp : (2 : Nat) ^ sh = 128 ^ k := by rw [hs, Nat.pow_mul]
  have hpi : (2 : Int) ^ sh = ((128 ^ k : Nat) : Int) := by rw [← hp]; simp
  have h1 : bits .andNot .u8 (x : Int) 128 = ((x % 128 : Nat) : Int) := by
    rw [show (128 : Int) = ((128 : Nat) : Int) from rfl, u8_andNot_nat _ _ hx (by omega)]
    show (((x &&& 127 : Nat)) : Int) = _
    rw [nat_mask7]
  have hb : 128 ^ k * (x % 128) < 18446744073709551616 := by
    by_cases h : k = 9
    · have := h9 h
      subst h
      have : x % 128 ≤ 1 := by omega
      have h2 : 128 ^ 9 * (x % 128) ≤ 128 ^ 9 * 1 := Nat.mul_le_mul_left _ this
      have h3 : (128 : Nat) ^ 9 = 9223372036854775808 := by decide
      omega
    · have h2 : (128 : Nat) ^ k ≤ 128 ^ 8 := Nat.pow_le_pow_right (by omega) (by omega)
      have h3 : (128 : Nat) ^ 8 = 72057594037927936 := by decide
      have h4 : 128 ^ k * (x % 128) ≤ 128 ^ 8 * 127 := Nat.mul_le_mul h2 (by omega)
      omega
  have h9p : (128 : Nat) ^ k ≤ 128 ^ 9 := Nat.pow_le_pow_right (by omega) hk
  have h93 : (128 : Nat) ^ 9 = 9223372036854775808 := by decide
  rw [h1, hpi, IntKind.wrap_u64 (((x % 128 : Nat)) : Int), show (((x % 128 : Nat) : Int) % 18446744073709551616) = ((x % 128 : Nat) : Int) by omega, ← Int.natCast_mul, IntKind.wrap_u64, Nat.mul_comm (x % 128)]
  rw [show (((128 ^ k * (x % 128) : Nat) : Int) % 18446744073709551616) = ((128 ^ k * (x % 128) : Nat) : Int) by omega, u64_or_nat _ _ (by omega) hb]
  congr 1
  rw [Nat.or_comm, nat_join sh _ _ (by rw [hp]; exact Nat.mul_mod_right _ _) (by rw [hp]; exact ha)]
  omega

set_option maxRecDepth 100000 in
set_option maxHeartbeats 4000000 in
theorem dUint_any (bd B : Nat) (L : List UInt8) (p : Nat) (w : World) (h : DecOk bd B L p w) :
    Calls Try.prog 76 #[.pointer (some ⟨bd, 0, none⟩)] w (DecPost bd B L (retU (rdUint L p)) w) := by
  have HOK := Lib.hid h
  clear h
  go_enter Try.func76, Try.ntmps76
  go_wp2_with fail
  go_loopg [3, 4] 10 (fun g n s wr => ∃ k acc sh : Nat, k ≤ 9 ∧ 10 - k ≤ g ∧ n = .int .u64 acc ∧ s = .int .i64 sh ∧ sh = 7 * k ∧ acc < 128 ^ k ∧ Hid (DecOk bd B L (p + k) wr) ∧ Hid (Mv bd w wr) ∧ Hid (rdU 0 (L.drop p) = addR acc k (rdU k (L.drop (p + k)))))
  case atStart => exact ⟨0, 0, 0, by omega, by omega, rfl, rfl, rfl, by decide, HOK, Mv.refl _ _, (addR_zero _).symm⟩
  case round =>
    obtain ⟨k, acc, sh, hk, hg, rfl, rfl, hsh, ha, hok, hm, hr⟩ := hrel
    have HBY := Lib.hid (dByte_any bd B L (p + k) wr hok.out)
    by_cases hp : p + k < L.length
    · obtain ⟨c, hc⟩ : ∃ c, L[p + k] = c := ⟨_, rfl⟩
      rw [List.getElem?_eq_getElem hp, hc] at HBY
      have hd : L.drop (p + k) = c :: L.drop (p + (k + 1)) := by rw [List.drop_eq_getElem_cons hp, hc]; rfl
      have HD := Lib.hid hd
      obtain ⟨x, hx⟩ : ∃ x, c.toNat = x := ⟨_, rfl⟩
      have hx2 : x < 256 := by rw [← hx]; exact c.toNat_lt
      simp only [hx] at HBY
      have HX := Lib.hid hx
      have HA := Lib.hid ha
      have HSH := Lib.hid hsh
      clear hd hc hok hx ha hsh
      by_cases h9 : k = 9 ∧ 1 < x
      · have HR : Hid (retU (rdUint L p) = .error 21) := by
          show _ = _
          have : rdU k (c :: L.drop (p + (k + 1))) = .error 21 := by
            rw [rdU, HX.out]
            by_cases h128 : x < 128
            · rw [if_pos h128, if_pos (.inr h9)]
            · rw [if_neg h128, if_pos h9.1]
          unfold rdUint
          rw [hr.out, HD.out, this]
          rfl
        rw [HR.out]
        have d1 : decide ((sh : Int) < 63) = false := decide_eq_false (by have := HSH.out; omega)
        have d2 : decide ((x : Int) ≤ 1) = false := decide_eq_false (by omega)
        have HQ := Lib.hid (req_no 21)
        clear HR HD
        go_wp2_with fail
        refine HBY.out.mono ?_
        rintro e w1 ⟨hm1, rfl, hok1⟩
        have HM1 := Lib.hid hm1
        clear hm1 hok1 HBY
        go_wp2_with fail
        refine (HQ.out _).mono ?_
        rintro e w2 ⟨rfl, rfl⟩
        exact ⟨rfl, hm.out.trans HM1.out, rfl⟩
      · have HQ := Lib.hid (req_yes 21)
        have hs0 : (0 : Int) ≤ sh := by omega
        have hs64 : (sh : Int) < 64 := by have := HSH.out; omega
        by_cases hk9 : k = 9
        · obtain rfl : sh = 63 := by have := HSH.out; omega
          have hx1 : (x : Int) ≤ 1 := by omega
          have hx128 : (x : Int) < 128 := by omega
          have dx : decide ((x : Int) ≤ 1) = true := decide_eq_true hx1
          by_cases h0 : x = 0
          · subst h0
            have HQ2 := Lib.hid (req_no 21)
            have HR : Hid (retU (rdUint L p) = .error 21) := by
              show _ = _
              have : rdU k (c :: L.drop (p + (k + 1))) = .error 21 := by rw [rdU, HX.out, if_pos (by omega), if_pos (.inl ⟨rfl, by omega⟩)]
              unfold rdUint
              rw [hr.out, HD.out, this]
              rfl
            rw [HR.out]
            clear HR HD
            go_wp2_with fail
            refine HBY.out.mono ?_
            rintro e w1 ⟨hm1, rfl, hok1⟩
            have HM1 := Lib.hid hm1
            have HOK1 := Lib.hid hok1
            clear hm1 hok1 HBY
            go_wp2_with fail
            refine (HQ.out _).mono ?_
            rintro e w2 ⟨rfl, rfl⟩
            go_wp2_with fail
            refine (HQ2.out _).mono ?_
            rintro e w2 ⟨rfl, rfl⟩
            exact ⟨rfl, hm.out.trans HM1.out, rfl⟩
          · have h0' : 0 < x := by omega
            have h0i : (0 : Int) < x := by omega
            have HR : Hid (retU (rdUint L p) = .ok (.int .u64 ((acc + 128 ^ k * (x % 128) : Nat) : Int), p + (k + 1))) := by
              show _ = _
              have : rdU k (c :: L.drop (p + (k + 1))) = .ok (x, 1) := by rw [rdU, HX.out, if_pos (by omega), if_neg (by omega)]
              unfold rdUint
              rw [hr.out, HD.out, this, Nat.mod_eq_of_lt (by omega)]
              rfl
            have HZ : Hid (∀ i : Int, i = 2 ^ 63 → bits .or .u64 (acc : Int) (IntKind.u64.wrap (IntKind.u64.wrap (bits .andNot .u8 (x : Int) 128) * i)) = ((acc + 128 ^ k * (x % 128) : Nat) : Int)) := fun i hi => by rw [hi]; exact or_group acc x k 63 HA.out HSH.out hk hx2 (by omega)
            rw [HR.out]
            clear HR HD
            go_wp2_with fail
            refine HBY.out.mono ?_
            rintro e w1 ⟨hm1, rfl, hok1⟩
            have HM1 := Lib.hid hm1
            have HOK1 := Lib.hid hok1
            clear hm1 hok1 HBY
            go_wp2_with fail
            refine (HQ.out _).mono ?_
            rintro e w2 ⟨rfl, rfl⟩
            go_wp2_with fail
            refine (HQ.out _).mono ?_
            rintro e w2 ⟨rfl, rfl⟩
            go_wp2_with fail
            go_ret
            exact ⟨hm.out.trans HM1.out, by show Ending.returned (.int .u64 _) = _; rw [HZ.out _ (by first | rfl | decide)], HOK1.out⟩
        · have hs63 : (sh : Int) < 63 := by have := HSH.out; omega
          by_cases h128 : x < 128
          · have hx128 : (x : Int) < 128 := by omega
            by_cases h0 : x = 0
            · subst h0
              by_cases hk0 : k = 0
              · subst hk0
                obtain rfl : sh = 0 := by have := HSH.out; omega
                have HR : Hid (retU (rdUint L p) = .ok (.int .u64 ((acc + 128 ^ 0 * (0 % 128) : Nat) : Int), p + (0 + 1))) := by
                  show _ = _
                  have : rdU 0 (c :: L.drop (p + (0 + 1))) = .ok (0, 1) := by rw [rdU, HX.out, if_pos (by omega), if_neg (by omega)]
                  unfold rdUint
                  rw [hr.out, HD.out, this]
                  rfl
                have HZ := Lib.hid (or_group acc 0 0 0 HA.out rfl (by omega) (by omega) (by omega))
                rw [HR.out]
                clear HR HD
                go_wp2_with fail
                refine HBY.out.mono ?_
                rintro e w1 ⟨hm1, rfl, hok1⟩
                have HM1 := Lib.hid hm1
                have HOK1 := Lib.hid hok1
                clear hm1 hok1 HBY
                go_wp2_with fail
                refine (HQ.out _).mono ?_
                rintro e w2 ⟨rfl, rfl⟩
                go_wp2_with fail
                refine (HQ.out _).mono ?_
                rintro e w2 ⟨rfl, rfl⟩
                go_wp2_with fail
                go_ret
                refine ⟨hm.out.trans HM1.out, ?_, HOK1.out⟩
                have hz := HZ.out
                rw [Int.pow_zero, Int.mul_one] at hz
                exact congrArg (fun z => Ending.returned (.int .u64 z)) hz
              · have hsz : ((sh : Int) == 0) = false := by have := HSH.out; simp; omega
                have hsz2 : ¬ sh = 0 := by have := HSH.out; omega
                have HQ2 := Lib.hid (req_no 21)
                have HR : Hid (retU (rdUint L p) = .error 21) := by
                  show _ = _
                  have : rdU k (c :: L.drop (p + (k + 1))) = .error 21 := by rw [rdU, HX.out, if_pos (by omega), if_pos (.inl ⟨rfl, by omega⟩)]
                  unfold rdUint
                  rw [hr.out, HD.out, this]
                  rfl
                rw [HR.out]
                clear HR HD
                go_wp2_with fail
                refine HBY.out.mono ?_
                rintro e w1 ⟨hm1, rfl, hok1⟩
                have HM1 := Lib.hid hm1
                have HOK1 := Lib.hid hok1
                clear hm1 hok1 HBY
                go_wp2_with fail
                refine (HQ.out _).mono ?_
                rintro e w2 ⟨rfl, rfl⟩
                go_wp2_with fail
                refine (HQ2.out _).mono ?_
                rintro e w2 ⟨rfl, rfl⟩
                exact ⟨rfl, hm.out.trans HM1.out, rfl⟩
            · have h0' : 0 < x := by omega
              have h0i : (0 : Int) < x := by omega
              have HR : Hid (retU (rdUint L p) = .ok (.int .u64 ((acc + 128 ^ k * (x % 128) : Nat) : Int), p + (k + 1))) := by
                show _ = _
                have : rdU k (c :: L.drop (p + (k + 1))) = .ok (x, 1) := by rw [rdU, HX.out, if_pos (by omega), if_neg (by omega)]
                unfold rdUint
                rw [hr.out, HD.out, this, Nat.mod_eq_of_lt (by omega)]
                rfl
              have HZ : Hid (∀ i : Int, i = 2 ^ sh → bits .or .u64 (acc : Int) (IntKind.u64.wrap (IntKind.u64.wrap (bits .andNot .u8 (x : Int) 128) * i)) = ((acc + 128 ^ k * (x % 128) : Nat) : Int)) := fun i hi => by rw [hi]; exact or_group acc x k sh HA.out HSH.out hk hx2 (by omega)
              rw [HR.out]
              clear HR HD
              go_wp2_with fail
              refine HBY.out.mono ?_
              rintro e w1 ⟨hm1, rfl, hok1⟩
              have HM1 := Lib.hid hm1
              have HOK1 := Lib.hid hok1
              clear hm1 hok1 HBY
              go_wp2_with fail
              refine (HQ.out _).mono ?_
              rintro e w2 ⟨rfl, rfl⟩
              go_wp2_with fail
              refine (HQ.out _).mono ?_
              rintro e w2 ⟨rfl, rfl⟩
              go_wp2_with fail
              go_ret
              exact ⟨hm.out.trans HM1.out, by show Ending.returned (.int .u64 _) = _; rw [HZ.out _ (by first | rfl | decide)], HOK1.out⟩
          · have hx128 : ¬ (x : Int) < 128 := by omega
            have dx : decide ((x : Int) < 128) = false := decide_eq_false hx128
            have h9' : k ≠ 9 := by omega
            have HR : Hid (rdU 0 (L.drop p) = addR (acc + 128 ^ k * (x % 128)) (k + 1) (rdU (k + 1) (L.drop (p + (k + 1))))) := by
              show _ = _
              rw [hr.out, HD.out, addR_step acc k c _ (by rw [HX.out]; omega) h9', HX.out, show x % 128 = x - 128 by omega]
            have HZ := Lib.hid (or_group acc x k sh HA.out HSH.out hk hx2 (by omega))
            have HLT : Hid (acc + 128 ^ k * (x % 128) < 128 ^ (k + 1)) := by
              show _ < _
              have h1 := HA.out
              have h2 : x % 128 ≤ 127 := by omega
              have h3 : 128 ^ k * (x % 128) ≤ 128 ^ k * 127 := Nat.mul_le_mul_left _ h2
              rw [Nat.pow_succ]
              omega
            clear HD
            go_wp2_with fail
            refine HBY.out.mono ?_
            rintro e w1 ⟨hm1, rfl, hok1⟩
            have HM1 := Lib.hid hm1
            have HOK1 := Lib.hid hok1
            clear hm1 hok1 HBY
            go_wp2_with fail
            refine (HQ.out _).mono ?_
            rintro e w2 ⟨rfl, rfl⟩
            go_wp2_with fail
            go_roundg (10 - (k + 1))
            case measure => omega
            case rel => exact ⟨k + 1, acc + 128 ^ k * (x % 128), sh + 7, by omega, Nat.le_refl _, by rw [HZ.out], by go_num, by have := HSH.out; omega, HLT.out, HOK1, hm.out.trans HM1.out, HR⟩
    · rw [List.getElem?_eq_none (by omega)] at HBY
      have HD : Hid (L.drop (p + k) = []) := List.drop_eq_nil_iff.2 (by omega)
      have HR : Hid (retU (rdUint L p) = .error 20) := by
        show _ = _
        unfold rdUint
        rw [hr.out, HD.out]
        rfl
      rw [HR.out]
      clear HR HD hok
      go_wp2_with fail
      refine HBY.out.mono ?_
      rintro e w1 ⟨hm1, rfl⟩
      exact ⟨rfl, hm.out.trans hm1, rfl⟩
end Go.Proofs.Ytkhbephcmcnfjaa
