/- The decoder's signed numbers. -/
import Derived.Test.YtkhbephcmcnfjaaRefUint
import Derived.Laws.DeepNot64
namespace Go.Proofs.Ytkhbephcmcnfjaa
open Go.RowKit Go.Deep

/-- The signed number that is written as n. -/
def unzz (n : Nat) : Int := if n % 2 = 0 then ((n / 2 : Nat) : Int) else -((n / 2 : Nat) : Int) - 1
def retI : Except Int (Nat × Nat) → Except Int (Value × Nat)
  | .error e => .error e
  | .ok (n, j) => .ok (.int .i64 (unzz n), j)
theorem unzz_range (n : Nat) (h : n < 18446744073709551616) : -9223372036854775808 ≤ unzz n ∧ unzz n ≤ 9223372036854775807 := by unfold unzz; split <;> omega

theorem rdU_lt : ∀ (M : List UInt8) (k n j : Nat), rdU k M = .ok (n, j) → k ≤ 9 → n < 2 ^ (64 - 7 * k)
  | [], k, n, j, h, _ => by simp [rdU] at h
  | c :: M, k, n, j, h, hk => by
    rw [rdU] at h
    by_cases h1 : c.toNat < 128
    · rw [if_pos h1] at h
      split at h
      · simp at h
      · rename_i hc
        simp only [Except.ok.injEq, Prod.mk.injEq] at h
        obtain ⟨rfl, -⟩ := h
        by_cases h9 : k = 9
        · subst h9
          have : c.toNat ≤ 1 := by omega
          exact Nat.lt_of_le_of_lt this (by decide)
        · exact Nat.lt_of_lt_of_le h1 (by rw [show (128 : Nat) = 2 ^ 7 from rfl]; exact Nat.pow_le_pow_right (by omega) (by omega))
    · rw [if_neg h1] at h
      by_cases h9 : k = 9
      · rw [if_pos h9] at h; simp at h
      · rw [if_neg h9] at h
        split at h
        · simp at h
        · rename_i n' j' he
          simp only [Except.ok.injEq, Prod.mk.injEq] at h
          obtain ⟨rfl, -⟩ := h
          have ih := rdU_lt M (k + 1) n' j' he (by omega)
          have hc := c.toNat_lt
          have e : 2 ^ (64 - 7 * k) = 2 ^ (64 - 7 * (k + 1)) * 128 := by
            rw [show (128 : Nat) = 2 ^ 7 from rfl, ← Nat.pow_add]
            congr 1; omega
          rw [e]
          omega
theorem rdUint_lt {L : List UInt8} {p n q : Nat} (h : rdUint L p = .ok (n, q)) : n < 18446744073709551616 := by
  unfold rdUint at h
  split at h
  · simp at h
  · rename_i n' j he
    simp only [Except.ok.injEq, Prod.mk.injEq] at h
    obtain ⟨rfl, -⟩ := h
    exact rdU_lt _ 0 _ _ he (by omega)

theorem i64_xor_neg (a : Nat) (ha : a < 9223372036854775808) : bits .xor .i64 (a : Int) (-1) = -(a : Int) - 1 := by
  show IntKind.i64.wrap ((BitVec.ofInt 64 (a : Int) ^^^ BitVec.ofInt 64 (-1)).toNat : Int) = _
  have h1 : BitVec.ofInt 64 (-1) = BitVec.allOnes 64 := by decide
  rw [h1, BitVec.xor_allOnes, BitVec.toNat_not, ofInt_u64 a (by omega)]
  simp [IntKind.wrap, IntKind.bits, IntKind.signed]
  omega
theorem i64_xor_zero (a : Nat) (ha : a < 9223372036854775808) : bits .xor .i64 (a : Int) 0 = (a : Int) := by
  show IntKind.i64.wrap ((BitVec.ofInt 64 (a : Int) ^^^ BitVec.ofInt 64 0).toNat : Int) = _
  have h1 : BitVec.ofInt 64 0 = 0#64 := by decide
  rw [h1, BitVec.xor_zero, ofInt_u64 a (by omega)]
  simp [IntKind.wrap, IntKind.bits, IntKind.signed]
  omega

theorem u64_and_one (n : Nat) (h : n < 18446744073709551616) : bits .and .u64 (n : Int) 1 = ((n % 2 : Nat) : Int) := by
  rw [show (1 : Int) = ((1 : Nat) : Int) from rfl, u64_and_nat n 1 h (by omega), nat_mask1]
theorem zz_back (n : Nat) (h : n < 18446744073709551616) : bits .xor .i64 ((n : Int) / 2) (wrap64 (-wrap64 (bits .and .u64 (n : Int) 1))) = unzz n := by
  rw [u64_and_one n h, show (n : Int) / 2 = ((n / 2 : Nat) : Int) by omega]
  unfold unzz
  by_cases h2 : n % 2 = 0
  · rw [if_pos h2, h2, show wrap64 (-wrap64 ((0 : Nat) : Int)) = 0 by unfold wrap64; omega]
    exact i64_xor_zero _ (by omega)
  · have h3 : n % 2 = 1 := by omega
    rw [if_neg h2, h3, show wrap64 (-wrap64 ((1 : Nat) : Int)) = -1 by unfold wrap64; omega]
    exact i64_xor_neg _ (by omega)

set_option maxRecDepth 100000 in
set_option maxHeartbeats 1000000 in
theorem dInt_any (bd B : Nat) (L : List UInt8) (p : Nat) (w : World) (h : DecOk bd B L p w) :
    Calls Try.prog 78 #[.pointer (some ⟨bd, 0, none⟩)] w (DecPost bd B L (retI (rdUint L p)) w) := by
  obtain ⟨r, hr⟩ : ∃ r, rdUint L p = r := ⟨_, rfl⟩
  have HU := Lib.hid (dUint_any bd B L p w h)
  rw [hr] at HU ⊢
  cases r with
  | error e =>
    clear h hr
    go_enter Try.func78, Try.ntmps78
    go_wp2_with fail
    refine HU.out.mono ?_
    rintro en w1 ⟨hm, rfl⟩
    exact ⟨rfl, hm, rfl⟩
  | ok x =>
    obtain ⟨n, q⟩ := x
    have hn := rdUint_lt hr
    clear h hr
    go_enter Try.func78, Try.ntmps78
    go_wp2_with fail
    refine HU.out.mono ?_
    rintro en w1 ⟨hm, rfl, hok⟩
    have HM := Lib.hid hm
    have HOK := Lib.hid hok
    clear hm hok HU
    go_wp2_with fail
    go_ret
    refine ⟨HM.out, ?_, HOK.out⟩
    show Ending.returned (.int .i64 _) = _
    rw [zz_back n hn]

/-- What is read as a signed number at a place: the number, the place behind it, the error code. -/
def readI (L : List UInt8) (p : Int) : Int × Nat × Int := if p < 0 ∨ (L.length : Int) < p then (0, 0, 1) else match rdUint L p.toNat with
  | .error e => (0, 0, e)
  | .ok (n, q) => (unzz n, q, 0)

set_option maxRecDepth 100000 in
theorem eInt_any (v : Value) (L : List UInt8) (p : Int) (w : World) (h : Reads w v L) : Calls Try.prog 42 #[v, .int .i64 p] w fun e w' => e = .returned (.tuple #[.int .i64 (readI L p).1, .int .i64 ((readI L p).2.1 : Int), .int .i64 (readI L p).2.2]) ∧ Below w.heap.size w w' := by
  have hmf : ∀ (fn : Fn) (first cap : Array Value) (w : World), (Instr.makeFunc fn first cap).run Try.prog w = .ok (.func fn first cap) w := fun _ _ _ _ => rfl
  have hbl : Below w.heap.size w (w.alloc (.cells #[.int .i64 0] 44)) := (Below.refl _ _).alloc (Nat.le_refl _) _
  have hr2 := h.below hbl
  have HBL := Lib.hid hbl
  have c0 := World.cell?_alloc_mark w #[.int .i64 0] 44 (0, 0) 0
  have f0 : (w.alloc (.cells #[.int .i64 0] 44)).frozen? ⟨w.heap.size, 0, none⟩ = false := by rw [World.frozen?_alloc_mark]; simp
  have C0 := Lib.hid c0
  have F0 := Lib.hid f0
  by_cases hp : p < 0 ∨ (L.length : Int) < p
  · have hE : readI L p = (0, 0, 1) := if_pos hp
    rw [hE]
    have HS := Lib.hid (start_bad v L p _ hr2 hp)
    clear hr2 hbl h c0 f0 hE
    go_enter_defers Try.func42, Try.ntmps42
    go_wp2_with fail
    refine HS.out.mono ?_
    rintro e w1 ⟨rfl, hb⟩
    have c1 : w1.cell? ⟨w.heap.size, 0, none⟩ = some (.int .i64 0) := (hb.cell (p := ⟨w.heap.size, 0, none⟩) (by simp)).trans C0.out
    have f1 : w1.frozen? ⟨w.heap.size, 0, none⟩ = false := (hb.frozen (p := ⟨w.heap.size, 0, none⟩) (by simp)).trans F0.out
    have HB1 : Hid (Below w.heap.size w w1) := HBL.out.trans (hb.mono HBL.out.size)
    clear hb
    refine leaves_cons (f := 77) (args := #[.pointer (some ⟨w.heap.size, 0, none⟩)]) (by simp) (by simp [go_sem]) ?_
    refine (catchInt_stop ⟨w.heap.size, 0, none⟩ 0 1 _ c1 f1).mono ?_
    rintro e u' w'' ⟨rfl, rfl, rfl⟩
    have c2 := World.cell?_setCell_same (v := .int .i64 1) (h := c1)
    have HB2 : Below w.heap.size w (w1.setCell ⟨w.heap.size, 0, none⟩ (.int .i64 1)) := HB1.out.setCell (by simp) _
    simp [Leaves, settle, results, Try.results42, go_sem, c2]
    exact HB2
  · obtain ⟨q, rfl⟩ : ∃ q : Nat, p = q := ⟨p.toNat, by omega⟩
    have hE : readI L q = match rdUint L q with | .error e => (0, 0, e) | .ok (n, q) => (unzz n, q, 0) := if_neg hp
    have HS := Lib.hid (start_ok v L q _ hr2 (by omega))
    rw [hE]
    obtain ⟨r, hr⟩ : ∃ r, rdUint L q = r := ⟨_, rfl⟩
    rw [hr]
    have HM : Hid (∀ bd W, DecOk bd W.heap.size L q W → Calls Try.prog 78 #[.pointer (some ⟨bd, 0, none⟩)] W (DecPost bd W.heap.size L (retI r) W)) := fun bd W h => by rw [← hr]; exact dInt_any bd _ L q W h
    clear hr2 hbl h c0 f0 hE hr hp
    go_enter_defers Try.func42, Try.ntmps42
    go_wp2_with fail
    refine HS.out.mono ?_
    rintro e w1 ⟨bd, rfl, hbd, hb, hok⟩
    have hbd' : w.heap.size < bd := by simp at hbd; omega
    have hlt := hok.lt
    have hwl : w.heap.size < w1.heap.size := by simp at hbd; omega
    have c1 : w1.cell? ⟨w.heap.size, 0, none⟩ = some (.int .i64 0) := (hb.cell (p := ⟨w.heap.size, 0, none⟩) (by simp)).trans C0.out
    have f1 : w1.frozen? ⟨w.heap.size, 0, none⟩ = false := (hb.frozen (p := ⟨w.heap.size, 0, none⟩) (by simp)).trans F0.out
    have HB1 : Hid (Below w.heap.size w w1) := HBL.out.trans (hb.mono HBL.out.size)
    have HR := Lib.hid (HM.out bd w1 hok)
    clear hb hok HM hbd
    go_wp2_with fail
    refine HR.out.mono ?_
    intro e w2 ⟨hm, hpost⟩
    have hbk := hm.block w.heap.size hwl (by omega)
    have c2 : w2.cell? ⟨w.heap.size, 0, none⟩ = some (.int .i64 0) := (World.cell?_of_block (w := w1) (a := ⟨w.heap.size, 0, none⟩) hbk).trans c1
    have f2 : w2.frozen? ⟨w.heap.size, 0, none⟩ = false := (World.frozen?_of_block (w := w1) (a := ⟨w.heap.size, 0, none⟩) hbk).trans f1
    have HB2 : Hid (Below w.heap.size w w2) := HB1.out.trans (hm.below (by omega) (by omega))
    clear hm hbk HR
    cases r with
    | error er =>
      obtain rfl : e = stop er := hpost
      refine leaves_cons (f := 77) (args := #[.pointer (some ⟨w.heap.size, 0, none⟩)]) (by simp) (by simp [go_sem]) ?_
      refine (catchInt_stop ⟨w.heap.size, 0, none⟩ 0 er _ c2 f2).mono ?_
      rintro e u' w'' ⟨rfl, rfl, rfl⟩
      have c3 := World.cell?_setCell_same (v := .int .i64 er) (h := c2)
      have HB3 : Below w.heap.size w (w2.setCell ⟨w.heap.size, 0, none⟩ (.int .i64 er)) := HB2.out.setCell (by simp) _
      simp [Leaves, settle, results, Try.results42, go_sem, c3]
      exact HB3
    | ok x =>
      obtain ⟨n, q2⟩ := x
      obtain ⟨rfl, hok⟩ := hpost
      obtain ⟨_, _, _, _, _, _, _, c4, _, _⟩ := hok
      go_wp2_with fail
      go_region
      have c5 : ((w2.setCell ⟨w.heap.size, 0, none⟩ (.int .i64 0)).drew).cell? ⟨w.heap.size, 0, none⟩ = some (.int .i64 0) := World.cell?_setCell_same (v := .int .i64 0) (h := c2)
      have f5 : ((w2.setCell ⟨w.heap.size, 0, none⟩ (.int .i64 0)).drew).frozen? ⟨w.heap.size, 0, none⟩ = false := by
        show (w2.setCell ⟨w.heap.size, 0, none⟩ (.int .i64 0)).frozen? ⟨w.heap.size, 0, none⟩ = false
        rw [World.frozen?_setCell]; exact f2
      have HB5 : Hid (Below w.heap.size w (w2.setCell ⟨w.heap.size, 0, none⟩ (.int .i64 0)).drew) := (HB2.out.setCell (by simp) _).drew
      generalize (w2.setCell ⟨w.heap.size, 0, none⟩ (.int .i64 0)).drew = w5 at c5 f5 HB5 ⊢
      go_wp2_with fail
      refine leaves_cons (f := 77) (args := #[.pointer (some ⟨w.heap.size, 0, none⟩)]) (by simp) (by simp [go_sem]) ?_
      refine (catchInt_idle ⟨w.heap.size, 0, none⟩ 0 _ c5 f5).mono ?_
      rintro e u' w'' ⟨rfl, rfl, rfl⟩
      have c6 := World.cell?_setCell_same (v := .int .i64 0) (h := c5)
      have HB6 : Below w.heap.size w (w5.setCell ⟨w.heap.size, 0, none⟩ (.int .i64 0)) := HB5.out.setCell (by simp) _
      simp [Leaves, settle, results, Try.results42, go_sem, c6]
      exact HB6

theorem rdU_err : ∀ (M : List UInt8) (k : Nat) (e : Int), rdU k M = .error e → e = 20 ∨ e = 21
  | [], k, e, h => by simp [rdU] at h; exact .inl h.symm
  | c :: M, k, e, h => by
    rw [rdU] at h
    split at h
    · split at h
      · simp at h; exact .inr h.symm
      · simp at h
    · split at h
      · simp at h; exact .inr h.symm
      · split at h
        · rename_i e' he
          simp only [Except.error.injEq] at h
          subst h
          exact rdU_err M (k + 1) _ he
        · simp at h
theorem rdUint_err {L : List UInt8} {p : Nat} {e : Int} (h : rdUint L p = .error e) : e = 20 ∨ e = 21 := by
  unfold rdUint at h
  split at h
  · rename_i e' he
    simp only [Except.error.injEq] at h
    subst h
    exact rdU_err _ _ _ he
  · simp at h
theorem readI_eq (L : List UInt8) (p : Int) : readI L p = if (readU L p).2.2 = 0 then (unzz (readU L p).1, (readU L p).2.1, 0) else (0, 0, (readU L p).2.2) := by
  unfold readI readU
  by_cases h : p < 0 ∨ (L.length : Int) < p
  · rw [if_pos h, if_pos h]; rfl
  · rw [if_neg h, if_neg h]
    cases he : rdUint L p.toNat with
    | error e =>
      have := rdUint_err he
      simp only
      rw [if_neg (by omega)]
    | ok x => rfl
theorem readU_lt (L : List UInt8) (p : Int) : (readU L p).1 < 18446744073709551616 := by
  unfold readU
  split
  · simp
  · split
    · simp
    · rename_i he
      exact rdUint_lt he

set_option maxRecDepth 100000 in
set_option maxHeartbeats 1000000 in
theorem fInt_any (v : Value) (L : List UInt8) (p : Int) (w : World) (h : Reads w v L) (hL : L.length ≤ 4398046511104) (hp0 : -9223372036854775808 ≤ p) (hp1 : p ≤ 9223372036854775807) : Calls Try.prog 43 #[v, .int .i64 p] w fun e w' => e = .returned (.tuple #[.int .i64 (readI L p).1, .int .i64 ((readI L p).2.1 : Int), .int .i64 (readI L p).2.2]) ∧ Below w.heap.size w w' := by
  have HU := Lib.hid (fUint_any v L p w h hL hp0 hp1)
  have hlt := readU_lt L p
  rw [readI_eq]
  obtain ⟨r, hr⟩ : ∃ r, readU L p = r := ⟨_, rfl⟩
  rw [hr] at HU hlt ⊢
  obtain ⟨n, q, e⟩ := r
  simp only at HU hlt ⊢
  clear h hr hp0 hp1
  by_cases he : e = 0
  · subst he
    rw [if_pos rfl]
    have HA := Lib.hid (u64_and_one n hlt)
    have hn2 : ((n / 2 : Nat) : Int) = (n : Int) / 2 := by omega
    have hq2 : n % 2 = 0 ∨ n % 2 = 1 := by omega
    rcases hq2 with h2 | h2
    · have HN : Hid (unzz n = (n : Int) / 2) := by show _ = _; unfold unzz; rw [if_pos h2, hn2]
      have ha : (bits .and .u64 (n : Int) 1 == 1) = false := by rw [HA.out, h2]; rfl
      clear h2 hn2
      go_enter Try.func43, Try.ntmps43
      go_wp2_with fail
      refine HU.out.mono ?_
      rintro en w1 ⟨rfl, hb⟩
      have HB := Lib.hid hb
      clear hb HU
      go_wp2_with fail
      refine bodyPost_ret (v := .tuple #[.int .i64 ((n : Int) / 2), .int .i64 q, .int .i64 0]) (by simp [results, Try.results43, go_sem]) rfl ⟨by rw [HN.out], HB.out⟩
    · have HN : Hid (unzz n = bits .xor .i64 (-1) ((n : Int) / 2)) := by
        show _ = _
        unfold unzz
        rw [if_neg (by omega), ← hn2, i64_not _ (by omega)]
        omega
      have ha : (bits .and .u64 (n : Int) 1 == 1) = true := by rw [HA.out, h2]; rfl
      clear h2 hn2
      go_enter Try.func43, Try.ntmps43
      go_wp2_with fail
      refine HU.out.mono ?_
      rintro en w1 ⟨rfl, hb⟩
      have HB := Lib.hid hb
      clear hb HU
      go_wp2_with fail
      refine bodyPost_ret (v := .tuple #[.int .i64 (bits .xor .i64 (-1) ((n : Int) / 2)), .int .i64 q, .int .i64 0]) (by simp [results, Try.results43, go_sem]) rfl ⟨by rw [HN.out], HB.out⟩
  · rw [if_neg he]
    have hb : (e != 0) = true := by simpa using he
    go_enter Try.func43, Try.ntmps43
    go_wp2_with fail
    refine HU.out.mono ?_
    rintro en w1 ⟨rfl, hb⟩
    have HB := Lib.hid hb
    clear hb HU
    go_wp2_with fail
    refine bodyPost_ret (v := .tuple #[.int .i64 0, .int .i64 0, .int .i64 e]) (by simp [results, Try.results43, go_sem]) rfl ⟨rfl, HB.out⟩
end Go.Proofs.Ytkhbephcmcnfjaa
