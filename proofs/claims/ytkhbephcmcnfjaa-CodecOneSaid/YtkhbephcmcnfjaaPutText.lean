/- Walks of the functions that copy a buffer, append a signed number, append a text. -/
import Derived.Test.YtkhbephcmcnfjaaPutInt
import Derived.Test.YtkhbephcmcnfjaaBytes
namespace Go.Proofs.Ytkhbephcmcnfjaa
open Go.RowKit Go.Deep

/-- A slice value reads as these bytes. -/
def Reads (w : World) (v : Value) (L : List UInt8) : Prop :=
  ∃ a c, v = .slice a L.length c ∧ L.length ≤ c ∧ c ≤ maxLen ∧ (a = none → c = 0) ∧ ∀ p, a = some p → ∀ j u, (bts L)[j]? = some u → w.cell? (p.add j) = some u
theorem Reads.below {w w' : World} {v : Value} {L : List UInt8} (h : Reads w v L) (hb : Below w.heap.size w w') : Reads w' v L := by
  obtain ⟨a, c, e, h1, h2, h3, h4⟩ := h
  exact ⟨a, c, e, h1, h2, h3, fun p hp j u hj => cell_later hb (h4 p hp j u hj)⟩
theorem Reads.full {w : World} {a : Option Addr} {n c : Nat} {L : List UInt8} (h : Reads w (.slice a n c) L) : n = L.length ∧ n ≤ c ∧ ∀ W, Below w.heap.size w W → Full W (.slice a n n) (bts L) := by
  obtain ⟨a', c', e, h1, h2, h3, h4⟩ := h
  simp only [Value.slice.injEq] at e
  obtain ⟨rfl, rfl, rfl⟩ := e
  exact ⟨rfl, h1, fun W hb => ⟨a, by rw [bts_len], fun h => by have := h3 h; rw [bts_len]; omega, fun p hp j u hj => cell_later hb (h4 p hp j u hj)⟩⟩
theorem Reads.form {w : World} {v : Value} {L : List UInt8} (h : Reads w v L) : ∃ a n c, v = .slice a n c := by
  obtain ⟨a', c', e, _⟩ := h
  exact ⟨_, _, _, e⟩
theorem Own.reads {B : Nat} {w : World} {v : Value} {L : List UInt8} (h : Own B w v L) : Reads w v L := by
  rcases h.2 with ⟨rfl, h0⟩ | ⟨g, cap, cur, rfl, hg, hgg, hnc, hcm, hcs, htake⟩
  · exact ⟨none, 0, by rw [h0], by omega, by unfold maxLen; omega, fun _ => rfl, fun p hp => by simp at hp⟩
  · refine ⟨some ⟨g, 0, none⟩, cap, rfl, hnc, hcm, fun h => by simp at h, fun p hp j u hj => ?_⟩
    simp only [Option.some.injEq] at hp
    subst hp
    exact World.ownsRow.cells h rfl j u hj

set_option maxRecDepth 100000 in
theorem fresh_any (v : Value) (L : List UInt8) (w : World) (h : Reads w v L) : Calls Try.prog 64 #[v] w fun e w' => ∃ v', e = .returned v' ∧ Full w v' (bts L) ∧ w' = w := by
  obtain ⟨a, c, rfl, h1, h2, h3, h4⟩ := h
  have hlc : (L.length : Int) ≤ c := by omega
  have h0 : (0 : Int) ≤ L.length := by omega
  have H4 := Lib.hid h4
  clear h4
  go_enter Try.func64, Try.ntmps64
  go_wp2
  go_ret
  exact ⟨_, rfl, ⟨a, by simp only [bts_len]; rfl, fun h => by have := h3 h; rw [bts_len]; omega, H4.out⟩, rfl⟩

set_option maxRecDepth 100000 in
theorem fresh_eq (a : Option Addr) (n c : Nat) (w : World) (h : n ≤ c) : Calls Try.prog 64 #[.slice a n c] w fun e w' => e = .returned (.slice a n n) ∧ w' = w := by
  have hlc : (n : Int) ≤ c := by omega
  have h0 : (0 : Int) ≤ n := by omega
  go_enter Try.func64, Try.ntmps64
  go_wp2
  go_ret
  exact ⟨rfl, rfl⟩

set_option maxRecDepth 100000 in
theorem rFresh_any (v : Value) (L : List UInt8) (w : World) (h : Reads w v L) (hl : L.length ≤ 4398046511104) : Calls Try.prog 66 #[v] w (OutPost w.heap.size w L) := by
  have hinfo : (Try.prog.info? 5).map (fun i => (i.zero, i.size, i.bytes)) = some (some (.int .u8 0), 1, 1) := by kernel_rfl
  obtain ⟨i0, hi, hz0, hz1, hz2⟩ := info_parts hinfo
  have HI := Lib.hid hi
  have HZ0 := Lib.hid hz0
  have HZ1 := Lib.hid hz1
  have HZ2 := Lib.hid hz2
  clear hi hz0 hz1 hz2 hinfo
  obtain ⟨a, c, rfl, h1, h2, h3, h4⟩ := h
  have L2 : Hid (a = none → L.length = 0 ∧ c = 0) := fun h => by have := h3 h; omega
  have L3 : Hid ((bts L).length = L.length * 1) := by show _ = _; rw [bts_len]; omega
  have L4 := Lib.hid h4
  have L6 : Hid (L.length ≤ maxLen) := by show _ ≤ _; unfold maxLen; omega
  have L7 : Hid (L.length * 1 ≤ 140737488355328) := by show _ ≤ _; omega
  clear h3 h4
  go_enter Try.func66, Try.ntmps66
  go_wp2_with (at_builtin; refine wpList_append_nil rfl _ _ 22 (by rfl) 5 i0 (.int .u8 0) 1 1 Try.underlying22 HI.out HZ0.out HZ1.out HZ2.out rfl (by decide) (by rfl) a L.length c (bts L) (by rfl) L2.out L3.out L4.out (bts_one L) L6.out L7.out ?_; intro v1 wa hown1 hba; have HOW1 := Lib.hid hown1; have HBA := Lib.hid hba; clear hown1 hba)
  go_ret
  exact ⟨_, rfl, HOW1.out, HBA.out, Keeps.below HBA.out⟩

/-- The number as which a signed number is written. -/
def zz (m : Int) : Nat := (if 0 ≤ m then 2 * m else -2 * m - 1).toNat

theorem xor_ones (a : Nat) (h : a < 18446744073709551616) : a ^^^ 18446744073709551615 = 18446744073709551615 - a := by
  apply Nat.eq_of_testBit_eq
  intro i
  have h1 : (18446744073709551615 : Nat) = 2 ^ 64 - 1 := by decide
  have h2 : 18446744073709551615 - a = 2 ^ 64 - (a + 1) := by omega
  rw [Nat.testBit_xor, h2, Nat.testBit_two_pow_sub_succ (by omega), h1, Nat.testBit_two_pow_sub_one]
  by_cases hi : i < 64
  · simp [hi]
  · have : a.testBit i = false := Nat.testBit_lt_two_pow (Nat.lt_of_lt_of_le (show a < 2 ^ 64 by omega) (Nat.pow_le_pow_right (by omega) (by omega)))
    simp [hi, this]
theorem zz_le (n : Int) (h1 : -9223372036854775808 ≤ n) (h2 : n ≤ 9223372036854775807) : zz n ≤ 18446744073709551615 := by unfold zz; split <;> omega
theorem zz_bits (n : Int) (h1 : -9223372036854775808 ≤ n) (h2 : n ≤ 9223372036854775807) (a b : Int) (ha : a = (2 * n) % 18446744073709551616) (hb : b = (n / 9223372036854775808) % 18446744073709551616) : bits .xor .u64 a b = (zz n : Int) := by
  by_cases h : 0 ≤ n
  · have e1 : a = ((2 * n).toNat : Int) := by omega
    have e2 : b = ((0 : Nat) : Int) := by omega
    rw [e1, e2, u64_xor_nat _ _ (by omega) (by omega), Nat.xor_zero]
    unfold zz
    rw [if_pos h]
  · have e1 : a = ((2 * n + 18446744073709551616).toNat : Int) := by omega
    have e2 : b = ((18446744073709551615 : Nat) : Int) := by omega
    rw [e1, e2, u64_xor_nat _ _ (by omega) (by omega), xor_ones _ (by omega)]
    unfold zz
    rw [if_neg h]
    omega

set_option maxRecDepth 100000 in
theorem kInt_any (B : Nat) (v : Value) (L : List UInt8) (n : Int) (w : World) (hb : Buf B w v L) (hn : -9223372036854775808 ≤ n) (hn' : n ≤ 9223372036854775807) (hl : L.length ≤ 4398046511104) (hB : B ≤ w.heap.size) :
    Calls Try.prog 67 #[v, .int .i64 n] w (OutPost B w (L ++ leb (zz n))) := by
  have HC := Lib.hid (kUint_any B v L (zz n) w hb (by unfold zz; split <;> omega) hl hB)
  clear hb
  go_enter Try.func67, Try.ntmps67
  go_wp2_with fail
  rw [zz_bits n hn hn' _ _ (by simp only [IntKind.wrap_u64, wrap64]; omega) (by simp only [IntKind.wrap_u64])]
  refine HC.out.mono ?_
  rintro e w1 ⟨v1, rfl, ho, hb, hk⟩
  have HO := Lib.hid ho
  have HBB := Lib.hid hb
  have HKK := Lib.hid hk
  clear ho hb hk
  go_wp2_with fail
  go_ret
  exact ⟨_, rfl, HO.out, HBB.out, HKK.out⟩
end Go.Proofs.Ytkhbephcmcnfjaa
