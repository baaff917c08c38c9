/- The reference's reader of a value. -/
import Derived.Test.YtkhbephcmcnfjaaReadVal
import Derived.Test.YtkhbephcmcnfjaaRefText
namespace Go.Proofs.Ytkhbephcmcnfjaa
open Go.RowKit Go.Deep

def outV : Except Int (V × Nat) → V × Nat × Int
  | .error e => (⟨0, 0, ⟨#[]⟩⟩, 0, e)
  | .ok (n, q) => (n, q, 0)
theorem rdText_err {L : List UInt8} {p m : Nat} {e : Int} (h : rdText L p m = .error e) : e ≠ 0 := by
  unfold rdText at h
  split at h
  · rename_i e' he
    simp only [Except.error.injEq] at h
    subst h
    have := rdUint_err he
    omega
  · split at h
    · simp at h; omega
    · split at h
      · simp at h; omega
      · simp at h
theorem outV_four (L : List UInt8) (q : Nat) (k : UInt8) (h4 : k.toNat = 4) (hq : q + 1 ≤ L.length) (hL : L[q]? = some k) {x : Int} {y : Nat} {e : Int} (h : readI L ((q + 1 : Nat) : Int) = (x, y, e)) : outV (rdV L q) = if e = 0 then (⟨4, x, ⟨#[]⟩⟩, y, 0) else (⟨0, 0, ⟨#[]⟩⟩, 0, e) := by
  unfold readI at h
  rw [if_neg (by omega), show ((q + 1 : Nat) : Int).toNat = q + 1 by omega] at h
  unfold rdV
  rw [hL]
  simp only
  rw [if_neg (by omega), if_neg (by omega), if_pos h4]
  cases he : rdUint L (q + 1) with
  | error er =>
    have := rdUint_err he
    rw [he] at h
    simp only [Prod.mk.injEq] at h
    obtain ⟨rfl, rfl, rfl⟩ := h
    rw [if_neg (by omega)]
    rfl
  | ok r =>
    rw [he] at h
    obtain ⟨n, q'⟩ := r
    simp only [Prod.mk.injEq] at h
    obtain ⟨rfl, rfl, rfl⟩ := h
    rw [if_pos rfl]
    rfl
theorem outV_five (L : List UInt8) (q : Nat) (k : UInt8) (h5 : k.toNat = 5) (hq : q + 1 ≤ L.length) (hL : L[q]? = some k) {x : List UInt8} {y : Nat} {e : Int} (h : readT L ((q + 1 : Nat) : Int) 64 = (x, y, e)) : outV (rdV L q) = if e = 0 then (⟨5, 0, ⟨x.toArray⟩⟩, y, 0) else (⟨0, 0, ⟨#[]⟩⟩, 0, e) := by
  unfold readT at h
  rw [if_neg (by omega), show ((q + 1 : Nat) : Int).toNat = q + 1 by omega, show ((64 : Int)).toNat = 64 from rfl] at h
  unfold rdV
  rw [hL]
  simp only
  rw [if_neg (by omega), if_neg (by omega), if_neg (by omega), if_pos h5]
  cases he : rdText L (q + 1) 64 with
  | error er =>
    have := rdText_err he
    rw [he] at h
    simp only [Prod.mk.injEq] at h
    obtain ⟨rfl, rfl, rfl⟩ := h
    rw [if_neg this]
    rfl
  | ok r =>
    rw [he] at h
    obtain ⟨n, q'⟩ := r
    simp only [Prod.mk.injEq] at h
    obtain ⟨rfl, rfl, rfl⟩ := h
    rw [if_pos rfl]
    rfl

set_option maxRecDepth 100000 in
set_option maxHeartbeats 8000000 in
theorem fValue_any (v : Value) (L : List UInt8) (p : Int) (w : World) (h : Reads w v L) (hL : L.length ≤ 4398046511104) (hp0 : -9223372036854775808 ≤ p) (hp1 : p ≤ 9223372036854775807) : Calls Try.prog 47 #[v, .int .i64 p] w fun e w' => e = .returned (.tuple #[.agg #[.int .i64 (readV L p).1.k, .int .i64 (readV L p).1.n, .string (readV L p).1.s], .int .i64 ((readV L p).2.1 : Int), .int .i64 (readV L p).2.2]) ∧ Below w.heap.size w w' := by
  obtain ⟨a, ln, c, rfl⟩ := h.form
  obtain ⟨rfl, hc1, hc2, hcells⟩ := h.cells
  have HC := Lib.hid hcells
  by_cases hp : p < 0 ∨ (L.length : Int) < p
  · have hE : readV L p = (⟨0, 0, ⟨#[]⟩⟩, 0, 1) := if_pos hp
    rw [hE]
    clear h hcells hE
    by_cases h0 : p < 0
    · have d1 : decide (p < 0) = true := decide_eq_true h0
      go_enter Try.func47, Try.ntmps47
      go_wp2_with fail
      exact bodyPost_ret (v := .tuple #[.agg #[.int .i64 0, .int .i64 0, .string ⟨#[]⟩], .int .i64 0, .int .i64 1]) (by simp [results, Try.results47, go_sem]) rfl ⟨rfl, by (repeat (first | exact Below.refl _ _ | assumption | refine Below.drew ?_ | refine Below.setCell ?_ (by simp; try omega) _ | refine Below.alloc ?_ (by simp; try omega) _))⟩
    · have d1 : decide (p < 0) = false := decide_eq_false h0
      have d2 : decide (p > L.length) = true := decide_eq_true (by omega)
      have d3 : decide ((L.length : Int) < p) = true := decide_eq_true (by omega)
      go_enter Try.func47, Try.ntmps47
      go_wp2_with fail
      exact bodyPost_ret (v := .tuple #[.agg #[.int .i64 0, .int .i64 0, .string ⟨#[]⟩], .int .i64 0, .int .i64 1]) (by simp [results, Try.results47, go_sem]) rfl ⟨rfl, by (repeat (first | exact Below.refl _ _ | assumption | refine Below.drew ?_ | refine Below.setCell ?_ (by simp; try omega) _ | refine Below.alloc ?_ (by simp; try omega) _))⟩
  · obtain ⟨q, rfl⟩ : ∃ q : Nat, p = q := ⟨p.toNat, by omega⟩
    have d1 : decide ((q : Int) < 0) = false := decide_eq_false (by omega)
    have d2 : decide ((q : Int) > L.length) = false := decide_eq_false (by omega)
    have d3 : decide ((L.length : Int) < q) = false := decide_eq_false (by omega)
    have d3' : decide (L.length < q) = false := decide_eq_false (by omega)
    have hE : readV L q = outV (rdV L q) := by
      unfold readV
      rw [if_neg hp, show ((q : Int)).toNat = q by omega]
      cases rdV L q <;> rfl
    have HE := Lib.hid hE
    clear hE hp0 hp1 hp
    by_cases hq : q = L.length
    · have HV : Hid (readV L q = (⟨0, 0, ⟨#[]⟩⟩, 0, 20)) := by
        show _ = _
        rw [HE.out]; unfold rdV; rw [List.getElem?_eq_none (by omega)]; rfl
      rw [HV.out]
      have x1 : ((q : Int) == L.length) = true := by simp; omega
      clear HV HE h hcells
      go_enter Try.func47, Try.ntmps47
      go_wp2_with fail
      exact bodyPost_ret (v := .tuple #[.agg #[.int .i64 0, .int .i64 0, .string ⟨#[]⟩], .int .i64 0, .int .i64 20]) (by simp [results, Try.results47, go_sem]) rfl ⟨rfl, by (repeat (first | exact Below.refl _ _ | assumption | refine Below.drew ?_ | refine Below.setCell ?_ (by simp; try omega) _ | refine Below.alloc ?_ (by simp; try omega) _))⟩
    · have hql : q < L.length := by
        have := of_decide_eq_false d3'
        omega
      have x1 : ((q : Int) == L.length) = false := by simp; omega
      have x2 : (q : Int) < L.length := by omega
      have x3 : (0 : Int) ≤ q := by omega
      obtain ⟨k, hk⟩ : ∃ k, L[q] = k := ⟨_, rfl⟩
      have hLq : L[q]? = some k := by rw [List.getElem?_eq_getElem hql, hk]
      obtain ⟨b1, o1, rfl, hb1, hcell⟩ := HC.out q hql
      rw [hk] at hcell
      by_cases k1 : k.toNat = 1
      · obtain rfl : k = 1 := by apply UInt8.toNat_inj.1; rw [k1]; rfl
        have HV : Hid (readV L q = (⟨1, 0, ⟨#[]⟩⟩, q + 1, 0)) := by show _ = _; rw [HE.out]; unfold rdV; rw [hLq]; rfl
        rw [HV.out]
        have hcell1 : w.cell? ⟨b1, o1 + q, none⟩ = some (.int .u8 1) := hcell
        clear HV HE hcell h hcells
        go_enter Try.func47, Try.ntmps47
        go_wp2_with fail
        exact bodyPost_ret (v := .tuple #[.agg #[.int .i64 1, .int .i64 0, .string ⟨#[]⟩], .int .i64 ((q : Int) + 1), .int .i64 0]) (by simp [results, Try.results47, go_sem]) rfl ⟨rfl, by (repeat (first | exact Below.refl _ _ | assumption | refine Below.drew ?_ | refine Below.setCell ?_ (by simp; try omega) _ | refine Below.alloc ?_ (by simp; try omega) _))⟩
      by_cases k2 : k.toNat = 2
      · obtain rfl : k = 2 := by apply UInt8.toNat_inj.1; rw [k2]; rfl
        have HV : Hid (readV L q = (⟨2, 0, ⟨#[]⟩⟩, q + 1, 0)) := by show _ = _; rw [HE.out]; unfold rdV; rw [hLq]; rfl
        rw [HV.out]
        have hcell1 : w.cell? ⟨b1, o1 + q, none⟩ = some (.int .u8 2) := hcell
        clear HV HE hcell h hcells
        go_enter Try.func47, Try.ntmps47
        go_wp2_with fail
        exact bodyPost_ret (v := .tuple #[.agg #[.int .i64 2, .int .i64 0, .string ⟨#[]⟩], .int .i64 ((q : Int) + 1), .int .i64 0]) (by simp [results, Try.results47, go_sem]) rfl ⟨rfl, by (repeat (first | exact Below.refl _ _ | assumption | refine Below.drew ?_ | refine Below.setCell ?_ (by simp; try omega) _ | refine Below.alloc ?_ (by simp; try omega) _))⟩
      by_cases k3 : k.toNat = 3
      · obtain rfl : k = 3 := by apply UInt8.toNat_inj.1; rw [k3]; rfl
        have hcell1 : w.cell? ⟨b1, o1 + q, none⟩ = some (.int .u8 3) := hcell
        by_cases hq1 : q + 1 < L.length
        · obtain ⟨b, hb⟩ : ∃ b, L[q + 1] = b := ⟨_, rfl⟩
          have hLq1 : L[q + 1]? = some b := by rw [List.getElem?_eq_getElem hq1, hb]
          obtain ⟨b2, o2, e2, hb2, hcell2⟩ := HC.out (q + 1) hq1
          simp only [Option.some.injEq, Addr.mk.injEq, and_true] at e2
          obtain ⟨rfl, rfl⟩ := e2
          rw [hb] at hcell2
          obtain ⟨y, hy⟩ : ∃ y, b.toNat = y := ⟨_, rfl⟩
          have hy2 : y < 256 := by rw [← hy]; exact b.toNat_lt
          rw [hy] at hcell2
          have z1 : (((q : Int) + 1) == L.length) = false := by simp; omega
          have z2 : (q : Int) + 1 < L.length := by omega
          have z3 : (0 : Int) ≤ (q : Int) + 1 := by omega
          have z4 : ((q : Int) + 1).toNat = q + 1 := by omega
          by_cases hle : y ≤ 1
          · have HV : Hid (readV L q = (⟨3, y, ⟨#[]⟩⟩, q + 2, 0)) := by show _ = _; rw [HE.out]; unfold rdV; rw [hLq]; simp only [hLq1, hy, if_pos hle]; rfl
            rw [HV.out]
            have dy : decide ((y : Int) > 1) = false := decide_eq_false (by omega)
            have dy2 : decide ((1 : Int) < y) = false := decide_eq_false (by omega)
            have dy3 : decide (1 < y) = false := decide_eq_false (by omega)
            clear HV HE hcell h hcells hLq1 hb hy
            go_enter Try.func47, Try.ntmps47
            go_wp2_with fail
            exact bodyPost_ret (v := .tuple #[.agg #[.int .i64 3, .int .i64 y, .string ⟨#[]⟩], .int .i64 ((q : Int) + 1 + 1), .int .i64 0]) (by simp [results, Try.results47, go_sem]) rfl ⟨by congr 3, by (repeat (first | exact Below.refl _ _ | assumption | refine Below.drew ?_ | refine Below.setCell ?_ (by simp; try omega) _ | refine Below.alloc ?_ (by simp; try omega) _))⟩
          · have HV : Hid (readV L q = (⟨0, 0, ⟨#[]⟩⟩, 0, 21)) := by show _ = _; rw [HE.out]; unfold rdV; rw [hLq]; simp only [hLq1, hy, if_neg hle]; rfl
            rw [HV.out]
            have dy : decide ((y : Int) > 1) = true := decide_eq_true (by omega)
            have dy2 : decide ((1 : Int) < y) = true := decide_eq_true (by omega)
            have dy3 : decide (1 < y) = true := decide_eq_true (by omega)
            clear HV HE hcell h hcells hLq1 hb hy
            go_enter Try.func47, Try.ntmps47
            go_wp2_with fail
            exact bodyPost_ret (v := .tuple #[.agg #[.int .i64 0, .int .i64 0, .string ⟨#[]⟩], .int .i64 0, .int .i64 21]) (by simp [results, Try.results47, go_sem]) rfl ⟨rfl, by (repeat (first | exact Below.refl _ _ | assumption | refine Below.drew ?_ | refine Below.setCell ?_ (by simp; try omega) _ | refine Below.alloc ?_ (by simp; try omega) _))⟩
        · have hLq1 : L[q + 1]? = none := List.getElem?_eq_none (by omega)
          have HV : Hid (readV L q = (⟨0, 0, ⟨#[]⟩⟩, 0, 20)) := by show _ = _; rw [HE.out]; unfold rdV; rw [hLq]; simp only [hLq1]; rfl
          rw [HV.out]
          have z1 : (((q : Int) + 1) == L.length) = true := by simp; omega
          clear HV HE hcell h hcells hLq1
          go_enter Try.func47, Try.ntmps47
          go_wp2_with fail
          exact bodyPost_ret (v := .tuple #[.agg #[.int .i64 0, .int .i64 0, .string ⟨#[]⟩], .int .i64 0, .int .i64 20]) (by simp [results, Try.results47, go_sem]) rfl ⟨rfl, by (repeat (first | exact Below.refl _ _ | assumption | refine Below.drew ?_ | refine Below.setCell ?_ (by simp; try omega) _ | refine Below.alloc ?_ (by simp; try omega) _))⟩
      by_cases k4 : k.toNat = 4
      · obtain rfl : k = 4 := by apply UInt8.toNat_inj.1; rw [k4]; rfl
        have hcell1 : w.cell? ⟨b1, o1 + q, none⟩ = some (.int .u8 4) := hcell
        obtain ⟨x, y, e, hR⟩ : ∃ x y e, readI L ((q + 1 : Nat) : Int) = (x, y, e) := ⟨_, _, _, rfl⟩
        have HI : Hid (∀ W, Below w.heap.size w W → Calls Try.prog 43 #[.slice (some ⟨b1, o1, none⟩) L.length c, .int .i64 ((q : Int) + 1)] W fun e' w' => e' = .returned (.tuple #[.int .i64 x, .int .i64 y, .int .i64 e]) ∧ Below W.heap.size W w') := fun W hb => by
          have := fInt_any _ L ((q + 1 : Nat) : Int) W (h.below hb) hL (by omega) (by omega)
          rw [hR] at this
          exact this
        have HV : Hid (readV L q = if e = 0 then (⟨4, x, ⟨#[]⟩⟩, y, 0) else (⟨0, 0, ⟨#[]⟩⟩, 0, e)) := by
          show _ = _
          rw [HE.out]
          exact outV_four L q 4 rfl (by omega) hLq hR
        have hbl : Below w.heap.size w ((w.alloc (.cells #[.int .i64 0, .int .i64 0, .string ⟨#[]⟩] 42)).alloc (.cells #[.int .i64 4, .int .i64 0, .string ⟨#[]⟩] 42)) := ((Below.refl _ _).alloc (Nat.le_refl _) _).alloc (by simp) _
        have HI := Lib.hid (HI.out _ hbl)
        rw [HV.out]
        by_cases he : e = 0
        · subst he
          rw [if_pos rfl]
          clear HV HE hcell h hcells hR
          go_enter Try.func47, Try.ntmps47
          go_wp2_with fail
          refine HI.out.mono ?_
          rintro en w2 ⟨rfl, hb⟩
          have hsz1 : (w.alloc (.cells #[.int .i64 0, .int .i64 0, .string ⟨#[]⟩] 42)).heap.size = w.heap.size + 1 := by simp
          have hpa := (Below.refl (w.heap.size + 1) (w.alloc (.cells #[.int .i64 0, .int .i64 0, .string ⟨#[]⟩] 42))).alloc (by simp) (.cells #[.int .i64 4, .int .i64 0, .string ⟨#[]⟩] 42)
          have hrc : ∀ i, w2.cell? ⟨w.heap.size, i, none⟩ = (#[.int .i64 0, .int .i64 0, .string ⟨#[]⟩] : Array Value)[i]? := fun i => (hb.cell (p := ⟨w.heap.size, i, none⟩) (by simp; omega)).trans ((hpa.cell (p := ⟨w.heap.size, i, none⟩) (Nat.lt_succ_self _)).trans (World.cell?_alloc_mark w _ _ _ i))
          have hrf : ∀ i, w2.frozen? ⟨w.heap.size, i, none⟩ = false := fun i => (hb.frozen (p := ⟨w.heap.size, i, none⟩) (by simp; omega)).trans ((hpa.frozen (p := ⟨w.heap.size, i, none⟩) (Nat.lt_succ_self _)).trans (by rw [World.frozen?_alloc_mark]; simp))
          have huc : ∀ i, w2.cell? ⟨w.heap.size + 1, i, none⟩ = (#[.int .i64 4, .int .i64 0, .string ⟨#[]⟩] : Array Value)[i]? := fun i => (hb.cell (p := ⟨w.heap.size + 1, i, none⟩) (by simp)).trans (by rw [← hsz1]; exact World.cell?_alloc_mark _ _ _ _ i)
          have huf : ∀ i, w2.frozen? ⟨w.heap.size + 1, i, none⟩ = false := fun i => (hb.frozen (p := ⟨w.heap.size + 1, i, none⟩) (by simp)).trans (by rw [← hsz1, World.frozen?_alloc_mark]; simp)
          have r0 : w2.cell? ⟨w.heap.size, 0, none⟩ = some (.int .i64 0) := hrc 0
          have r1 : w2.cell? ⟨w.heap.size, 1, none⟩ = some (.int .i64 0) := hrc 1
          have r2 : w2.cell? ⟨w.heap.size, 2, none⟩ = some (.string ⟨#[]⟩) := hrc 2
          have f0 := hrf 0
          have f1 := hrf 1
          have f2 := hrf 2
          have s0 : w2.cell? ⟨w.heap.size + 1, 0, none⟩ = some (.int .i64 4) := huc 0
          have s1 : w2.cell? ⟨w.heap.size + 1, 1, none⟩ = some (.int .i64 0) := huc 1
          have s2 : w2.cell? ⟨w.heap.size + 1, 2, none⟩ = some (.string ⟨#[]⟩) := huc 2
          have t0 := huf 0
          have t1 := huf 1
          have t2 := huf 2
          have HB2 : Hid (Below w.heap.size w w2) := hbl.trans (hb.mono hbl.size)
          clear hsz1 hpa hrc hrf huc huf hb HI hbl
          go_wp2_with fail
          have x0 : (w2.setCell ⟨w.heap.size + 1, 1, none⟩ (.int .i64 x)).cell? ⟨w.heap.size, 0, none⟩ = some (.int .i64 0) := (World.cell?_setCell_other _ _ _ _ (by simp)).trans r0
          have x1 : (w2.setCell ⟨w.heap.size + 1, 1, none⟩ (.int .i64 x)).cell? ⟨w.heap.size, 1, none⟩ = some (.int .i64 0) := (World.cell?_setCell_other _ _ _ _ (by simp)).trans r1
          have x2 : (w2.setCell ⟨w.heap.size + 1, 1, none⟩ (.int .i64 x)).cell? ⟨w.heap.size, 2, none⟩ = some (.string ⟨#[]⟩) := (World.cell?_setCell_other _ _ _ _ (by simp)).trans r2
          obtain ⟨e0, e1, e2⟩ := set3 (.int .i64 4) (.int .i64 (x)) (.string (⟨#[]⟩)) x0 x1 x2
          exact bodyPost_ret (v := .tuple #[.agg #[.int .i64 4, .int .i64 (x), .string (⟨#[]⟩)], .int .i64 y, .int .i64 0]) (by simp [results, Try.results47, go_sem, e0, e1, e2]) rfl ⟨rfl, (((HB2.out.setCell (by simp) _).setCell (by simp) _).setCell (by simp) _).setCell (by simp) _⟩
        · rw [if_neg he]
          have hbe : (e != 0) = true := by simpa using he
          clear HV HE hcell h hcells hR
          go_enter Try.func47, Try.ntmps47
          go_wp2_with fail
          refine HI.out.mono ?_
          rintro en w2 ⟨rfl, hb⟩
          have hsz1 : (w.alloc (.cells #[.int .i64 0, .int .i64 0, .string ⟨#[]⟩] 42)).heap.size = w.heap.size + 1 := by simp
          have hpa := (Below.refl (w.heap.size + 1) (w.alloc (.cells #[.int .i64 0, .int .i64 0, .string ⟨#[]⟩] 42))).alloc (by simp) (.cells #[.int .i64 4, .int .i64 0, .string ⟨#[]⟩] 42)
          have hrc : ∀ i, w2.cell? ⟨w.heap.size, i, none⟩ = (#[.int .i64 0, .int .i64 0, .string ⟨#[]⟩] : Array Value)[i]? := fun i => (hb.cell (p := ⟨w.heap.size, i, none⟩) (by simp; omega)).trans ((hpa.cell (p := ⟨w.heap.size, i, none⟩) (Nat.lt_succ_self _)).trans (World.cell?_alloc_mark w _ _ _ i))
          have hrf : ∀ i, w2.frozen? ⟨w.heap.size, i, none⟩ = false := fun i => (hb.frozen (p := ⟨w.heap.size, i, none⟩) (by simp; omega)).trans ((hpa.frozen (p := ⟨w.heap.size, i, none⟩) (Nat.lt_succ_self _)).trans (by rw [World.frozen?_alloc_mark]; simp))
          have huc : ∀ i, w2.cell? ⟨w.heap.size + 1, i, none⟩ = (#[.int .i64 4, .int .i64 0, .string ⟨#[]⟩] : Array Value)[i]? := fun i => (hb.cell (p := ⟨w.heap.size + 1, i, none⟩) (by simp)).trans (by rw [← hsz1]; exact World.cell?_alloc_mark _ _ _ _ i)
          have huf : ∀ i, w2.frozen? ⟨w.heap.size + 1, i, none⟩ = false := fun i => (hb.frozen (p := ⟨w.heap.size + 1, i, none⟩) (by simp)).trans (by rw [← hsz1, World.frozen?_alloc_mark]; simp)
          have r0 : w2.cell? ⟨w.heap.size, 0, none⟩ = some (.int .i64 0) := hrc 0
          have r1 : w2.cell? ⟨w.heap.size, 1, none⟩ = some (.int .i64 0) := hrc 1
          have r2 : w2.cell? ⟨w.heap.size, 2, none⟩ = some (.string ⟨#[]⟩) := hrc 2
          have f0 := hrf 0
          have f1 := hrf 1
          have f2 := hrf 2
          have s0 : w2.cell? ⟨w.heap.size + 1, 0, none⟩ = some (.int .i64 4) := huc 0
          have s1 : w2.cell? ⟨w.heap.size + 1, 1, none⟩ = some (.int .i64 0) := huc 1
          have s2 : w2.cell? ⟨w.heap.size + 1, 2, none⟩ = some (.string ⟨#[]⟩) := huc 2
          have t0 := huf 0
          have t1 := huf 1
          have t2 := huf 2
          have HB2 : Hid (Below w.heap.size w w2) := hbl.trans (hb.mono hbl.size)
          clear hsz1 hpa hrc hrf huc huf hb HI hbl
          go_wp2_with fail
          have x0 : (w2.setCell ⟨w.heap.size + 1, 1, none⟩ (.int .i64 x)).cell? ⟨w.heap.size, 0, none⟩ = some (.int .i64 0) := (World.cell?_setCell_other _ _ _ _ (by simp)).trans r0
          have x1 : (w2.setCell ⟨w.heap.size + 1, 1, none⟩ (.int .i64 x)).cell? ⟨w.heap.size, 1, none⟩ = some (.int .i64 0) := (World.cell?_setCell_other _ _ _ _ (by simp)).trans r1
          have x2 : (w2.setCell ⟨w.heap.size + 1, 1, none⟩ (.int .i64 x)).cell? ⟨w.heap.size, 2, none⟩ = some (.string ⟨#[]⟩) := (World.cell?_setCell_other _ _ _ _ (by simp)).trans r2
          obtain ⟨e0, e1, e2⟩ := set3 (.int .i64 0) (.int .i64 (0)) (.string (⟨#[]⟩)) x0 x1 x2
          exact bodyPost_ret (v := .tuple #[.agg #[.int .i64 0, .int .i64 (0), .string (⟨#[]⟩)], .int .i64 0, .int .i64 e]) (by simp [results, Try.results47, go_sem, e0, e1, e2]) rfl ⟨rfl, (((HB2.out.setCell (by simp) _).setCell (by simp) _).setCell (by simp) _).setCell (by simp) _⟩
      by_cases k5 : k.toNat = 5
      · obtain rfl : k = 5 := by apply UInt8.toNat_inj.1; rw [k5]; rfl
        have hcell1 : w.cell? ⟨b1, o1 + q, none⟩ = some (.int .u8 5) := hcell
        obtain ⟨x, y, e, hR⟩ : ∃ x y e, readT L ((q + 1 : Nat) : Int) 64 = (x, y, e) := ⟨_, _, _, rfl⟩
        have HI : Hid (∀ W, Below w.heap.size w W → Calls Try.prog 45 #[.slice (some ⟨b1, o1, none⟩) L.length c, .int .i64 ((q : Int) + 1), .int .i64 64] W fun e' w' => e' = .returned (.tuple #[.string ⟨x.toArray⟩, .int .i64 y, .int .i64 e]) ∧ Below W.heap.size W w') := fun W hb => by
          have := fText_any _ L ((q + 1 : Nat) : Int) 64 W (h.below hb) hL (by omega) (by omega) (by omega)
          rw [hR] at this
          exact this
        have HV : Hid (readV L q = if e = 0 then (⟨5, 0, ⟨x.toArray⟩⟩, y, 0) else (⟨0, 0, ⟨#[]⟩⟩, 0, e)) := by
          show _ = _
          rw [HE.out]
          exact outV_five L q 5 rfl (by omega) hLq hR
        have hbl : Below w.heap.size w ((w.alloc (.cells #[.int .i64 0, .int .i64 0, .string ⟨#[]⟩] 42)).alloc (.cells #[.int .i64 5, .int .i64 0, .string ⟨#[]⟩] 42)) := ((Below.refl _ _).alloc (Nat.le_refl _) _).alloc (by simp) _
        have HI := Lib.hid (HI.out _ hbl)
        rw [HV.out]
        by_cases he : e = 0
        · subst he
          rw [if_pos rfl]
          clear HV HE hcell h hcells hR
          go_enter Try.func47, Try.ntmps47
          go_wp2_with fail
          refine HI.out.mono ?_
          rintro en w2 ⟨rfl, hb⟩
          have hsz1 : (w.alloc (.cells #[.int .i64 0, .int .i64 0, .string ⟨#[]⟩] 42)).heap.size = w.heap.size + 1 := by simp
          have hpa := (Below.refl (w.heap.size + 1) (w.alloc (.cells #[.int .i64 0, .int .i64 0, .string ⟨#[]⟩] 42))).alloc (by simp) (.cells #[.int .i64 5, .int .i64 0, .string ⟨#[]⟩] 42)
          have hrc : ∀ i, w2.cell? ⟨w.heap.size, i, none⟩ = (#[.int .i64 0, .int .i64 0, .string ⟨#[]⟩] : Array Value)[i]? := fun i => (hb.cell (p := ⟨w.heap.size, i, none⟩) (by simp; omega)).trans ((hpa.cell (p := ⟨w.heap.size, i, none⟩) (Nat.lt_succ_self _)).trans (World.cell?_alloc_mark w _ _ _ i))
          have hrf : ∀ i, w2.frozen? ⟨w.heap.size, i, none⟩ = false := fun i => (hb.frozen (p := ⟨w.heap.size, i, none⟩) (by simp; omega)).trans ((hpa.frozen (p := ⟨w.heap.size, i, none⟩) (Nat.lt_succ_self _)).trans (by rw [World.frozen?_alloc_mark]; simp))
          have huc : ∀ i, w2.cell? ⟨w.heap.size + 1, i, none⟩ = (#[.int .i64 5, .int .i64 0, .string ⟨#[]⟩] : Array Value)[i]? := fun i => (hb.cell (p := ⟨w.heap.size + 1, i, none⟩) (by simp)).trans (by rw [← hsz1]; exact World.cell?_alloc_mark _ _ _ _ i)
          have huf : ∀ i, w2.frozen? ⟨w.heap.size + 1, i, none⟩ = false := fun i => (hb.frozen (p := ⟨w.heap.size + 1, i, none⟩) (by simp)).trans (by rw [← hsz1, World.frozen?_alloc_mark]; simp)
          have r0 : w2.cell? ⟨w.heap.size, 0, none⟩ = some (.int .i64 0) := hrc 0
          have r1 : w2.cell? ⟨w.heap.size, 1, none⟩ = some (.int .i64 0) := hrc 1
          have r2 : w2.cell? ⟨w.heap.size, 2, none⟩ = some (.string ⟨#[]⟩) := hrc 2
          have f0 := hrf 0
          have f1 := hrf 1
          have f2 := hrf 2
          have s0 : w2.cell? ⟨w.heap.size + 1, 0, none⟩ = some (.int .i64 5) := huc 0
          have s1 : w2.cell? ⟨w.heap.size + 1, 1, none⟩ = some (.int .i64 0) := huc 1
          have s2 : w2.cell? ⟨w.heap.size + 1, 2, none⟩ = some (.string ⟨#[]⟩) := huc 2
          have t0 := huf 0
          have t1 := huf 1
          have t2 := huf 2
          have HB2 : Hid (Below w.heap.size w w2) := hbl.trans (hb.mono hbl.size)
          clear hsz1 hpa hrc hrf huc huf hb HI hbl
          go_wp2_with fail
          have x0 : (w2.setCell ⟨w.heap.size + 1, 2, none⟩ (.string ⟨x.toArray⟩)).cell? ⟨w.heap.size, 0, none⟩ = some (.int .i64 0) := (World.cell?_setCell_other _ _ _ _ (by simp)).trans r0
          have x1 : (w2.setCell ⟨w.heap.size + 1, 2, none⟩ (.string ⟨x.toArray⟩)).cell? ⟨w.heap.size, 1, none⟩ = some (.int .i64 0) := (World.cell?_setCell_other _ _ _ _ (by simp)).trans r1
          have x2 : (w2.setCell ⟨w.heap.size + 1, 2, none⟩ (.string ⟨x.toArray⟩)).cell? ⟨w.heap.size, 2, none⟩ = some (.string ⟨#[]⟩) := (World.cell?_setCell_other _ _ _ _ (by simp)).trans r2
          obtain ⟨e0, e1, e2⟩ := set3 (.int .i64 5) (.int .i64 (0)) (.string (⟨x.toArray⟩)) x0 x1 x2
          exact bodyPost_ret (v := .tuple #[.agg #[.int .i64 5, .int .i64 (0), .string (⟨x.toArray⟩)], .int .i64 y, .int .i64 0]) (by simp [results, Try.results47, go_sem, e0, e1, e2]) rfl ⟨rfl, (((HB2.out.setCell (by simp) _).setCell (by simp) _).setCell (by simp) _).setCell (by simp) _⟩
        · rw [if_neg he]
          have hbe : (e != 0) = true := by simpa using he
          clear HV HE hcell h hcells hR
          go_enter Try.func47, Try.ntmps47
          go_wp2_with fail
          refine HI.out.mono ?_
          rintro en w2 ⟨rfl, hb⟩
          have hsz1 : (w.alloc (.cells #[.int .i64 0, .int .i64 0, .string ⟨#[]⟩] 42)).heap.size = w.heap.size + 1 := by simp
          have hpa := (Below.refl (w.heap.size + 1) (w.alloc (.cells #[.int .i64 0, .int .i64 0, .string ⟨#[]⟩] 42))).alloc (by simp) (.cells #[.int .i64 5, .int .i64 0, .string ⟨#[]⟩] 42)
          have hrc : ∀ i, w2.cell? ⟨w.heap.size, i, none⟩ = (#[.int .i64 0, .int .i64 0, .string ⟨#[]⟩] : Array Value)[i]? := fun i => (hb.cell (p := ⟨w.heap.size, i, none⟩) (by simp; omega)).trans ((hpa.cell (p := ⟨w.heap.size, i, none⟩) (Nat.lt_succ_self _)).trans (World.cell?_alloc_mark w _ _ _ i))
          have hrf : ∀ i, w2.frozen? ⟨w.heap.size, i, none⟩ = false := fun i => (hb.frozen (p := ⟨w.heap.size, i, none⟩) (by simp; omega)).trans ((hpa.frozen (p := ⟨w.heap.size, i, none⟩) (Nat.lt_succ_self _)).trans (by rw [World.frozen?_alloc_mark]; simp))
          have huc : ∀ i, w2.cell? ⟨w.heap.size + 1, i, none⟩ = (#[.int .i64 5, .int .i64 0, .string ⟨#[]⟩] : Array Value)[i]? := fun i => (hb.cell (p := ⟨w.heap.size + 1, i, none⟩) (by simp)).trans (by rw [← hsz1]; exact World.cell?_alloc_mark _ _ _ _ i)
          have huf : ∀ i, w2.frozen? ⟨w.heap.size + 1, i, none⟩ = false := fun i => (hb.frozen (p := ⟨w.heap.size + 1, i, none⟩) (by simp)).trans (by rw [← hsz1, World.frozen?_alloc_mark]; simp)
          have r0 : w2.cell? ⟨w.heap.size, 0, none⟩ = some (.int .i64 0) := hrc 0
          have r1 : w2.cell? ⟨w.heap.size, 1, none⟩ = some (.int .i64 0) := hrc 1
          have r2 : w2.cell? ⟨w.heap.size, 2, none⟩ = some (.string ⟨#[]⟩) := hrc 2
          have f0 := hrf 0
          have f1 := hrf 1
          have f2 := hrf 2
          have s0 : w2.cell? ⟨w.heap.size + 1, 0, none⟩ = some (.int .i64 5) := huc 0
          have s1 : w2.cell? ⟨w.heap.size + 1, 1, none⟩ = some (.int .i64 0) := huc 1
          have s2 : w2.cell? ⟨w.heap.size + 1, 2, none⟩ = some (.string ⟨#[]⟩) := huc 2
          have t0 := huf 0
          have t1 := huf 1
          have t2 := huf 2
          have HB2 : Hid (Below w.heap.size w w2) := hbl.trans (hb.mono hbl.size)
          clear hsz1 hpa hrc hrf huc huf hb HI hbl
          go_wp2_with fail
          have x0 : (w2.setCell ⟨w.heap.size + 1, 2, none⟩ (.string ⟨x.toArray⟩)).cell? ⟨w.heap.size, 0, none⟩ = some (.int .i64 0) := (World.cell?_setCell_other _ _ _ _ (by simp)).trans r0
          have x1 : (w2.setCell ⟨w.heap.size + 1, 2, none⟩ (.string ⟨x.toArray⟩)).cell? ⟨w.heap.size, 1, none⟩ = some (.int .i64 0) := (World.cell?_setCell_other _ _ _ _ (by simp)).trans r1
          have x2 : (w2.setCell ⟨w.heap.size + 1, 2, none⟩ (.string ⟨x.toArray⟩)).cell? ⟨w.heap.size, 2, none⟩ = some (.string ⟨#[]⟩) := (World.cell?_setCell_other _ _ _ _ (by simp)).trans r2
          obtain ⟨e0, e1, e2⟩ := set3 (.int .i64 0) (.int .i64 (0)) (.string (⟨#[]⟩)) x0 x1 x2
          exact bodyPost_ret (v := .tuple #[.agg #[.int .i64 0, .int .i64 (0), .string (⟨#[]⟩)], .int .i64 0, .int .i64 e]) (by simp [results, Try.results47, go_sem, e0, e1, e2]) rfl ⟨rfl, (((HB2.out.setCell (by simp) _).setCell (by simp) _).setCell (by simp) _).setCell (by simp) _⟩
      have HV : Hid (readV L q = (⟨0, 0, ⟨#[]⟩⟩, 0, 21)) := by show _ = _; rw [HE.out]; unfold rdV; rw [hLq]; simp only; rw [if_neg (by omega), if_neg k3, if_neg k4, if_neg k5]; rfl
      rw [HV.out]
      obtain ⟨x, hx⟩ : ∃ x, k.toNat = x := ⟨_, rfl⟩
      have hx2 : x < 256 := by rw [← hx]; exact k.toNat_lt
      rw [hx] at hcell k1 k2 k3 k4 k5
      have y1 : ((x : Int) == 1) = false := by simp; omega
      have y2 : ((x : Int) == 2) = false := by simp; omega
      have y3 : ((x : Int) == 3) = false := by simp; omega
      have y4 : ((x : Int) == 4) = false := by simp; omega
      have y5 : ((x : Int) == 5) = false := by simp; omega
      clear HV HE h hcells hx
      go_enter Try.func47, Try.ntmps47
      go_wp2_with fail
      exact bodyPost_ret (v := .tuple #[.agg #[.int .i64 0, .int .i64 0, .string ⟨#[]⟩], .int .i64 0, .int .i64 21]) (by simp [results, Try.results47, go_sem]) rfl ⟨rfl, by (repeat (first | exact Below.refl _ _ | assumption | refine Below.drew ?_ | refine Below.setCell ?_ (by simp; try omega) _ | refine Below.alloc ?_ (by simp; try omega) _))⟩
end Go.Proofs.Ytkhbephcmcnfjaa
