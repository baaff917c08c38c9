/- The reference's reader of a text. -/
import Derived.Test.YtkhbephcmcnfjaaReadText
namespace Go.Proofs.Ytkhbephcmcnfjaa
open Go.RowKit Go.Deep

theorem rdUint_le {L : List UInt8} {p n q : Nat} (hp : p ≤ L.length) (h : rdUint L p = .ok (n, q)) : q ≤ L.length := by
  have key : ∀ (M : List UInt8) (k n j : Nat), rdU k M = .ok (n, j) → j ≤ M.length := by
    intro M
    induction M with
    | nil => intro k n j h; simp [rdU] at h
    | cons c M ih =>
      intro k n j h
      rw [rdU] at h
      split at h
      · split at h
        · simp at h
        · simp only [Except.ok.injEq, Prod.mk.injEq] at h; simp only [List.length_cons]; omega
      · split at h
        · simp at h
        · split at h
          · simp at h
          · rename_i n' j' he
            simp only [Except.ok.injEq, Prod.mk.injEq] at h
            have := ih _ _ _ he
            simp only [List.length_cons]; omega
  unfold rdUint at h
  split at h
  · simp at h
  · rename_i n' j he
    simp only [Except.ok.injEq, Prod.mk.injEq] at h
    have := key _ _ _ _ he
    rw [List.length_drop] at this
    omega

theorem readT_eq (L : List UInt8) (p most : Nat) (hp : p ≤ L.length) : readT L p most = if (readU L p).2.2 = 0 then (if most < (readU L p).1 then ([], 0, 2) else if L.length - (readU L p).2.1 < (readU L p).1 then ([], 0, 20) else ((L.drop (readU L p).2.1).take (readU L p).1, (readU L p).2.1 + (readU L p).1, 0)) else ([], 0, (readU L p).2.2) := by
  have hU : readU L p = match rdUint L p with | .error e => (0, 0, e) | .ok (n, q) => (n, q, 0) := by
    unfold readU
    rw [if_neg (by omega), show ((p : Int)).toNat = p by omega]
    cases rdUint L p <;> rfl
  rw [hU]
  unfold readT
  rw [if_neg (by omega)]
  unfold rdText
  rw [show ((p : Int)).toNat = p by omega, show ((most : Int)).toNat = most by omega]
  cases he : rdUint L p with
  | error e =>
    have := rdUint_err he
    simp only
    rw [if_neg (by omega)]
  | ok x =>
    obtain ⟨n, q⟩ := x
    simp only
    rw [if_pos trivial]
    by_cases h1 : most < n
    · simp only [if_pos h1]
    · simp only [if_neg h1]
      by_cases h2 : L.length - q < n
      · simp only [if_pos h2]
      · simp only [if_neg h2]
theorem readU_le (L : List UInt8) (p : Nat) (hp : p ≤ L.length) : (readU L p).2.1 ≤ L.length := by
  unfold readU
  rw [if_neg (by omega), show ((p : Int)).toNat = p by omega]
  cases he : rdUint L p with
  | error e => simp
  | ok x => exact rdUint_le hp he

set_option maxRecDepth 100000 in
set_option maxHeartbeats 1000000 in
theorem fText_any (v : Value) (L : List UInt8) (p most : Int) (w : World) (h : Reads w v L) (hL : L.length ≤ 4398046511104) (hp0 : -9223372036854775808 ≤ p) (hp1 : p ≤ 9223372036854775807) (hm1 : most ≤ 9223372036854775807) : Calls Try.prog 45 #[v, .int .i64 p, .int .i64 most] w fun e w' => e = .returned (.tuple #[.string ⟨(readT L p most).1.toArray⟩, .int .i64 ((readT L p most).2.1 : Int), .int .i64 (readT L p most).2.2]) ∧ Below w.heap.size w w' := by
  obtain ⟨a, ln, c, rfl⟩ := h.form
  obtain ⟨rfl, hc1, hc2, hcells⟩ := h.cells
  by_cases hb : p < 0 ∨ (L.length : Int) < p ∨ most < 0
  · have hE : readT L p most = ([], 0, 1) := if_pos hb
    rw [hE]
    clear h hcells hE
    by_cases h0 : p < 0
    · have d1 : decide (p < 0) = true := decide_eq_true h0
      go_enter Try.func45, Try.ntmps45
      go_wp2_with fail
      exact bodyPost_ret (v := .tuple #[.string ⟨#[]⟩, .int .i64 0, .int .i64 1]) (by simp [results, Try.results45, go_sem]) rfl ⟨rfl, Below.refl _ _⟩
    · have d1 : decide (p < 0) = false := decide_eq_false h0
      by_cases h2 : (L.length : Int) < p
      · have d2 : decide (p > L.length) = true := decide_eq_true (by omega)
        have d3 : decide ((L.length : Int) < p) = true := decide_eq_true (by omega)
        go_enter Try.func45, Try.ntmps45
        go_wp2_with fail
        exact bodyPost_ret (v := .tuple #[.string ⟨#[]⟩, .int .i64 0, .int .i64 1]) (by simp [results, Try.results45, go_sem]) rfl ⟨rfl, Below.refl _ _⟩
      · have d2 : decide (p > L.length) = false := decide_eq_false (by omega)
        have d3 : decide ((L.length : Int) < p) = false := decide_eq_false (by omega)
        have d4 : decide (most < 0) = true := decide_eq_true (by omega)
        go_enter Try.func45, Try.ntmps45
        go_wp2_with fail
        exact bodyPost_ret (v := .tuple #[.string ⟨#[]⟩, .int .i64 0, .int .i64 1]) (by simp [results, Try.results45, go_sem]) rfl ⟨rfl, Below.refl _ _⟩
  · obtain ⟨p, rfl⟩ : ∃ q : Nat, p = q := ⟨p.toNat, by omega⟩
    obtain ⟨most, rfl⟩ : ∃ q : Nat, most = q := ⟨most.toNat, by omega⟩
    have HU := Lib.hid (fUint_any _ L p w h hL hp0 hp1)
    have hlt := readU_lt L p
    have hle := readU_le L p (by omega)
    rw [readT_eq L p most (by omega)]
    obtain ⟨r, hr⟩ : ∃ r, readU L p = r := ⟨_, rfl⟩
    rw [hr] at HU hlt hle ⊢
    obtain ⟨n, q, e⟩ := r
    simp only at HU hlt hle ⊢
    have HCL := Lib.hid hcells
    have d1 : decide ((p : Int) < 0) = false := decide_eq_false (by omega)
    have d2 : decide ((p : Int) > L.length) = false := decide_eq_false (by omega)
    have d3 : decide ((L.length : Int) < p) = false := decide_eq_false (by omega)
    have d3' : decide (L.length < p) = false := decide_eq_false (by omega)
    have d4 : decide ((most : Int) < 0) = false := decide_eq_false (by omega)
    clear h hr hp0 hp1 hb hcells
    by_cases he : e = 0
    · subst he
      rw [if_pos rfl]
      by_cases h1 : most < n
      · rw [if_pos h1]
        have x1 : decide ((n : Int) > most) = true := decide_eq_true (by omega)
        have x2 : decide ((most : Int) < n) = true := decide_eq_true (by omega)
        go_enter Try.func45, Try.ntmps45
        go_wp2_with fail
        refine HU.out.mono ?_
        rintro en w1 ⟨rfl, hb⟩
        have HB := Lib.hid hb
        clear hb HU
        go_wp2_with fail
        exact bodyPost_ret (v := .tuple #[.string ⟨#[]⟩, .int .i64 0, .int .i64 2]) (by simp [results, Try.results45, go_sem]) rfl ⟨rfl, HB.out⟩
      · rw [if_neg h1]
        have x1 : decide ((n : Int) > most) = false := decide_eq_false (by omega)
        have x2 : decide ((most : Int) < n) = false := decide_eq_false (by omega)
        have x2' : decide (most < n) = false := decide_eq_false (by omega)
        have e1 : (0 : Int) ≤ L.length - q := by omega
        have e2 : IntKind.i64.wrap ((L.length : Int) - q) = (L.length : Int) - q := by rw [IntKind.wrap_i64]; omega
        have e3 : IntKind.u64.wrap ((L.length : Int) - q) = (L.length : Int) - q := by rw [IntKind.wrap_u64]; omega
        by_cases h2 : L.length - q < n
        · rw [if_pos h2]
          have y2 : decide ((L.length : Int) - q < n) = true := decide_eq_true (by omega)
          have y3 : (L.length : Int) - q < n := by omega
          go_enter Try.func45, Try.ntmps45
          go_wp2_with fail
          refine HU.out.mono ?_
          rintro en w1 ⟨rfl, hb⟩
          have HB := Lib.hid hb
          clear hb HU
          go_wp2_with fail
          exact bodyPost_ret (v := .tuple #[.string ⟨#[]⟩, .int .i64 0, .int .i64 20]) (by simp [results, Try.results45, go_sem]) rfl ⟨rfl, HB.out⟩
        · rw [if_neg h2]
          have y2 : decide ((L.length : Int) - q < n) = false := decide_eq_false (by omega)
          have y3 : ¬ (L.length : Int) - q < n := by omega
          obtain ⟨sl, hsl, hrd⟩ := cut_bytes a c L q n (by omega) hc1
          have HRD := Lib.hid hrd
          clear hrd
          go_enter Try.func45, Try.ntmps45
          go_wp2_with fail
          refine HU.out.mono ?_
          rintro en w1 ⟨rfl, hb⟩
          have HB := Lib.hid hb
          have hcv : ∀ k, (convert 22 9 sl).run Try.prog (w1.drewN k) = .ok (.string ⟨((L.drop q).take n).toArray⟩) (w1.drewN k) := fun k => HRD.out _ (fun j hj => by
            obtain ⟨b, off, e, hbl, hc⟩ := HCL.out j hj
            exact ⟨b, off, e, (hb.cell (p := ⟨b, off + j, none⟩) hbl).trans hc⟩)
          have hcv0 : (convert 22 9 sl).run Try.prog w1 = .ok (.string ⟨((L.drop q).take n).toArray⟩) w1 := hcv 0
          clear hb HU
          go_wp2_with fail
          exact bodyPost_ret (v := .tuple #[.string ⟨((L.drop q).take n).toArray⟩, .int .i64 ((q : Int) + n), .int .i64 0]) (by simp [results, Try.results45, go_sem]) rfl ⟨by congr 2, HB.out⟩
    · rw [if_neg he]
      have hb : (e != 0) = true := by simpa using he
      go_enter Try.func45, Try.ntmps45
      go_wp2_with fail
      refine HU.out.mono ?_
      rintro en w1 ⟨rfl, hb⟩
      have HB := Lib.hid hb
      clear hb HU
      go_wp2_with fail
      exact bodyPost_ret (v := .tuple #[.string ⟨#[]⟩, .int .i64 0, .int .i64 e]) (by simp [results, Try.results45, go_sem]) rfl ⟨rfl, HB.out⟩
end Go.Proofs.Ytkhbephcmcnfjaa
