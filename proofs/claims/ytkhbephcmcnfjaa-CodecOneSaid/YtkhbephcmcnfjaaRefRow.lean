/- The reference's reader of a row. -/
import Derived.Test.YtkhbephcmcnfjaaRefValue
namespace Go.Proofs.Ytkhbephcmcnfjaa
open Go.RowKit Go.Deep

theorem rdText_le {L : List UInt8} {p m q : Nat} {s : List UInt8} (hp : p ≤ L.length) (h : rdText L p m = .ok (s, q)) : q ≤ L.length := by
  unfold rdText at h
  cases he : rdUint L p with
  | error e => rw [he] at h; simp at h
  | ok r =>
    obtain ⟨n, q1⟩ := r
    have := rdUint_le hp he
    rw [he] at h
    simp only at h
    split at h
    · simp at h
    · split at h
      · simp at h
      · simp only [Except.ok.injEq, Prod.mk.injEq] at h
        omega
theorem rdV_le {L : List UInt8} {p q : Nat} {v : V} (h : rdV L p = .ok (v, q)) : q ≤ L.length := by
  unfold rdV at h
  cases hk : L[p]? with
  | none => rw [hk] at h; simp at h
  | some k =>
    have hp := (List.getElem?_eq_some_iff.1 hk).1
    rw [hk] at h
    simp only at h
    split at h
    · simp only [Except.ok.injEq, Prod.mk.injEq] at h; omega
    · split at h
      · cases hb : L[p + 1]? with
        | none => rw [hb] at h; simp at h
        | some b =>
          have hp1 := (List.getElem?_eq_some_iff.1 hb).1
          rw [hb] at h
          simp only at h
          split at h
          · simp only [Except.ok.injEq, Prod.mk.injEq] at h; omega
          · simp at h
      · split at h
        · cases he : rdUint L (p + 1) with
          | error e => rw [he] at h; simp at h
          | ok r =>
            obtain ⟨n, q1⟩ := r
            have := rdUint_le (by omega) he
            rw [he] at h
            simp only [Except.ok.injEq, Prod.mk.injEq] at h
            omega
        · split at h
          · cases he : rdText L (p + 1) 64 with
            | error e => rw [he] at h; simp at h
            | ok r =>
              obtain ⟨n, q1⟩ := r
              have := rdText_le (by omega) he
              rw [he] at h
              simp only [Except.ok.injEq, Prod.mk.injEq] at h
              omega
          · simp at h
theorem rdV_err {L : List UInt8} {p : Nat} {e : Int} (h : rdV L p = .error e) : e ≠ 0 := by
  unfold rdV at h
  repeat' split at h
  all_goals first
    | (simp at h; omega)
    | (simp at h; done)
    | (rename_i h2; simp only [Except.error.injEq] at h; subst h; have := rdUint_err h2; omega)
    | (rename_i h2; simp only [Except.error.injEq] at h; subst h; exact rdText_err h2)

theorem rdVs_err {L : List UInt8} : ∀ {n p : Nat} {e : Int}, rdVs L n p = .error e → e ≠ 0
  | 0, p, e, h => by simp [rdVs] at h
  | n + 1, p, e, h => by
    rw [rdVs] at h
    split at h
    · rename_i e' he
      simp only [Except.error.injEq] at h
      subst h
      exact rdV_err he
    · split at h
      · rename_i e' he
        simp only [Except.error.injEq] at h
        subst h
        exact rdVs_err he
      · simp at h
def outR : Except Int (List V × Nat) → List V × Nat × Int
  | .error e => ([], 0, e)
  | .ok (n, q) => (n, q, 0)

set_option maxRecDepth 100000 in
set_option maxHeartbeats 8000000 in
theorem fRow_any (v : Value) (L : List UInt8) (p : Int) (w : World) (h : Reads w v L) (hL : L.length ≤ 4398046511104) (hp0 : -9223372036854775808 ≤ p) (hp1 : p ≤ 9223372036854775807) : Calls Try.prog 49 #[v, .int .i64 p] w fun e w' => ∃ rv, e = .returned (.tuple #[rv, .int .i64 ((readR L p).2.1 : Int), .int .i64 (readR L p).2.2]) ∧ RowAt w' rv (readR L p).1 ∧ Below w.heap.size w w' := by
  have hinfo : (Try.prog.info? 42).map (fun i => (i.zero, i.size, i.bytes)) = some (some (.agg #[.int .i64 0, .int .i64 0, .string ⟨#[]⟩]), 3, 32) := by kernel_rfl
  obtain ⟨i0, hi, hz0, hz1, hz2⟩ := info_parts hinfo
  have HI := Lib.hid hi
  have HZ0 := Lib.hid hz0
  have HZ1 := Lib.hid hz1
  have HZ2 := Lib.hid hz2
  clear hi hz0 hz1 hz2 hinfo
  have HU := Lib.hid (fUint_any v L p w h hL hp0 hp1)
  by_cases hp : p < 0 ∨ (L.length : Int) < p
  · have hU : readU L p = (0, 0, 1) := if_pos hp
    have hR : readR L p = ([], 0, 1) := if_pos hp
    rw [hU] at HU
    rw [hR]
    clear hU hR h hp hp0 hp1
    go_enter Try.func49, Try.ntmps49
    go_wp2_with fail
    refine HU.out.mono ?_
    rintro en w1 ⟨rfl, hb⟩
    have HB := Lib.hid hb
    clear hb HU
    go_wp2_with fail
    exact bodyPost_ret (v := .tuple #[.slice none 0 0, .int .i64 0, .int .i64 1]) (by simp [results, Try.results49, go_sem]) rfl ⟨_, rfl, rowAt_nil _, HB.out⟩
  · obtain ⟨q, rfl⟩ : ∃ q : Nat, p = q := ⟨p.toNat, by omega⟩
    have hR : readR L q = outR (rdRow L q) := by
      unfold readR
      rw [if_neg hp, show ((q : Int)).toNat = q by omega]
      cases rdRow L q <;> rfl
    have hU : readU L q = match rdUint L q with | .error e => (0, 0, e) | .ok (n, q) => (n, q, 0) := by
      unfold readU
      rw [if_neg hp, show ((q : Int)).toNat = q by omega]
      cases rdUint L q <;> rfl
    unfold rdRow at hR
    rw [hU] at HU
    rw [hR]
    clear hR hU
    cases hr : rdUint L q with
    | error e =>
      rw [hr] at HU
      simp only at HU
      have he := rdUint_err hr
      have hbe : (e != 0) = true := by simp; omega
      clear h hp hp0 hp1 hr
      go_enter Try.func49, Try.ntmps49
      go_wp2_with fail
      refine HU.out.mono ?_
      rintro en w1 ⟨rfl, hb⟩
      have HB := Lib.hid hb
      clear hb HU
      go_wp2_with fail
      exact bodyPost_ret (v := .tuple #[.slice none 0 0, .int .i64 0, .int .i64 e]) (by simp [results, Try.results49, go_sem]) rfl ⟨_, rfl, rowAt_nil _, HB.out⟩
    | ok x =>
      obtain ⟨n, p1⟩ := x
      rw [hr] at HU
      simp only at HU ⊢
      have hple := rdUint_le (by omega) hr
      by_cases h12 : 12 < n
      · have d1 : decide ((n : Int) > 12) = true := decide_eq_true (by omega)
        have d2 : decide ((12 : Int) < n) = true := decide_eq_true (by omega)
        have d3 : decide (12 < n) = true := decide_eq_true (by omega)
        rw [if_pos h12]
        clear h hp hp0 hp1 hr
        go_enter Try.func49, Try.ntmps49
        go_wp2_with fail
        refine HU.out.mono ?_
        rintro en w1 ⟨rfl, hb⟩
        have HB := Lib.hid hb
        clear hb HU
        go_wp2_with fail
        exact bodyPost_ret (v := .tuple #[.slice none 0 0, .int .i64 0, .int .i64 2]) (by simp [results, Try.results49, go_sem]) rfl ⟨_, rfl, rowAt_nil _, HB.out⟩
      · have d1 : decide ((n : Int) > 12) = false := decide_eq_false (by omega)
        have d2 : decide ((12 : Int) < n) = false := decide_eq_false (by omega)
        have d3 : decide (12 < n) = false := decide_eq_false (by omega)
        rw [if_neg h12]
        obtain ⟨R, hRR⟩ : ∃ R, rdVs L n p1 = R := ⟨_, rfl⟩
        have HRR := Lib.hid hRR
        rw [hRR]
        clear hRR
        have HRD := Lib.hid h
        clear h hp hp0 hp1 hr
        go_enter Try.func49, Try.ntmps49
        go_wp2_with fail
        refine HU.out.mono ?_
        rintro en w1 ⟨rfl, hb⟩
        have HB := Lib.hid hb
        clear hb HU
        go_wp2_with fail
        go_loopg [8, 9, 10, 11] n (fun g nx e rv i wr => ∃ (k p' : Nat) (l : List V), k ≤ n ∧ n - k ≤ g ∧ nx = .int .i64 p' ∧ e = .int .i64 0 ∧ i = .int .i64 k ∧ p' ≤ L.length ∧ Hid (l.length = k ∧ R = appR l (rdVs L (n - k) p') ∧ wr.ownsRow w.heap.size 42 3 rv l.length (cellsOf l) ∧ Below w.heap.size w wr))
        case atStart => exact ⟨0, p1, [], by omega, by omega, rfl, rfl, rfl, hple, by simp, by rw [appR_nil, Nat.sub_zero]; exact HRR.out.symm, ⟨by simp [cellsOf], .inl ⟨rfl, rfl⟩⟩, HB.out⟩
        case round =>
          obtain ⟨k, p', l, hk, hg, rfl, rfl, rfl, hp', hx⟩ := hrel
          have k0 : (0 : Int) ≤ k := by omega
          by_cases i1 : k < n
          · have i1' : (k : Int) < n := by omega
            have hV : readV L p' = outV (rdV L p') := by
              unfold readV
              rw [if_neg (by omega), show ((p' : Int)).toNat = p' by omega]
              cases rdV L p' <;> rfl
            have hbv : Below wr.heap.size wr (wr.alloc (.cells #[.int .i64 0, .int .i64 0, .string ⟨#[]⟩] 42)) := (Below.refl _ _).alloc (Nat.le_refl _) _
            have HV := Lib.hid (fValue_any v L p' _ (HRD.out.below (hx.out.2.2.2.trans (hbv.mono hx.out.2.2.2.size))) hL (by omega) (by omega))
            have HBV := Lib.hid (hx.out.2.2.2.trans (hbv.mono hx.out.2.2.2.size))
            have C0 : Hid (∀ i, (wr.alloc (.cells #[.int .i64 0, .int .i64 0, .string ⟨#[]⟩] 42)).cell? ⟨wr.heap.size, i, none⟩ = (#[.int .i64 0, .int .i64 0, .string ⟨#[]⟩] : Array Value)[i]?) := fun i => World.cell?_alloc_mark wr _ _ _ i
            have F0 : Hid (∀ i, (wr.alloc (.cells #[.int .i64 0, .int .i64 0, .string ⟨#[]⟩] 42)).frozen? ⟨wr.heap.size, i, none⟩ = false) := fun i => by rw [World.frozen?_alloc_mark]; simp
            rw [hV] at HV
            have hws : w.heap.size ≤ wr.heap.size := hx.out.2.2.2.size
            obtain ⟨va, vc, hv5⟩ := own_slice hx.out.2.2.1
            subst hv5
            clear hV
            cases hr : rdV L p' with
            | error er =>
              rw [hr] at HV
              simp only [outV] at HV
              have he := rdV_err hr
              have hbe : (er != 0) = true := by simpa using he
              have HE : Hid (R = .error er) := by
                show _ = _
                rw [hx.out.2.1, show n - k = (n - (k + 1)) + 1 by omega, rdVs_stop _ _ _ _ _ hr]
              clear hr
              go_wp2_with fail
              refine HV.out.mono ?_
              rintro en w2 ⟨rfl, hb⟩
              have q0 : w2.cell? ⟨wr.heap.size, 0, none⟩ = some (.int .i64 0) := (hb.cell (p := ⟨wr.heap.size, 0, none⟩) (by simp)).trans (C0.out 0)
              have q1 : w2.cell? ⟨wr.heap.size, 1, none⟩ = some (.int .i64 0) := (hb.cell (p := ⟨wr.heap.size, 1, none⟩) (by simp)).trans (C0.out 1)
              have q2 : w2.cell? ⟨wr.heap.size, 2, none⟩ = some (.string ⟨#[]⟩) := (hb.cell (p := ⟨wr.heap.size, 2, none⟩) (by simp)).trans (C0.out 2)
              have g0 : w2.frozen? ⟨wr.heap.size, 0, none⟩ = false := (hb.frozen (p := ⟨wr.heap.size, 0, none⟩) (by simp)).trans (F0.out 0)
              have g1 : w2.frozen? ⟨wr.heap.size, 1, none⟩ = false := (hb.frozen (p := ⟨wr.heap.size, 1, none⟩) (by simp)).trans (F0.out 1)
              have g2 : w2.frozen? ⟨wr.heap.size, 2, none⟩ = false := (hb.frozen (p := ⟨wr.heap.size, 2, none⟩) (by simp)).trans (F0.out 2)
              have HB2 : Hid (Below w.heap.size w w2) := HBV.out.trans (hb.mono HBV.out.size)
              clear hb HV
              go_wp2_with fail
              refine bodyPost_ret (v := .tuple #[.slice none 0 0, .int .i64 0, .int .i64 er]) (by simp [results, Try.results49, go_sem]) rfl ?_
              rw [HE.out]
              exact ⟨_, rfl, rowAt_nil _, ((HB2.out.setCell hws _).setCell hws _).setCell hws _⟩
            | ok x =>
              obtain ⟨vv, p2⟩ := x
              rw [hr] at HV
              simp only [outV] at HV
              have hp2 := rdV_le hr
              have HE : Hid (R = appR (l ++ [vv]) (rdVs L (n - (k + 1)) p2)) := by
                show _ = _
                rw [hx.out.2.1, show n - k = (n - (k + 1)) + 1 by omega, rdVs_step _ _ _ _ _ _ hr]
              clear hr
              go_wp2_with fail
              refine HV.out.mono ?_
              rintro en w2 ⟨rfl, hb⟩
              have q0 : w2.cell? ⟨wr.heap.size, 0, none⟩ = some (.int .i64 0) := (hb.cell (p := ⟨wr.heap.size, 0, none⟩) (by simp)).trans (C0.out 0)
              have q1 : w2.cell? ⟨wr.heap.size, 1, none⟩ = some (.int .i64 0) := (hb.cell (p := ⟨wr.heap.size, 1, none⟩) (by simp)).trans (C0.out 1)
              have q2 : w2.cell? ⟨wr.heap.size, 2, none⟩ = some (.string ⟨#[]⟩) := (hb.cell (p := ⟨wr.heap.size, 2, none⟩) (by simp)).trans (C0.out 2)
              have g0 : w2.frozen? ⟨wr.heap.size, 0, none⟩ = false := (hb.frozen (p := ⟨wr.heap.size, 0, none⟩) (by simp)).trans (F0.out 0)
              have g1 : w2.frozen? ⟨wr.heap.size, 1, none⟩ = false := (hb.frozen (p := ⟨wr.heap.size, 1, none⟩) (by simp)).trans (F0.out 1)
              have g2 : w2.frozen? ⟨wr.heap.size, 2, none⟩ = false := (hb.frozen (p := ⟨wr.heap.size, 2, none⟩) (by simp)).trans (F0.out 2)
              have HB2 : Hid (Below w.heap.size w w2) := HBV.out.trans (hb.mono HBV.out.size)
              have hkr : ∀ kk, Value.ownBlock (.slice va l.length vc) = some kk → w.heap.size ≤ kk ∧ kk < wr.heap.size := hx.out.2.2.1.lt
              have hgw : wr.grownBy (((w2.setCell ⟨wr.heap.size, 0, none⟩ (.int .i64 vv.k)).setCell ⟨wr.heap.size, 1, none⟩ (.int .i64 vv.n)).setCell ⟨wr.heap.size, 2, none⟩ (.string vv.s)) none := by
                have hz : wr.heap.size < w2.heap.size := by have := hb.size; simp at this; omega
                refine ⟨?_, ?_, ?_, by simp; omega, fun kk hkk _ => ?_⟩
                · exact (hbv.trans (hb.mono hbv.size)).os
                · exact (hbv.trans (hb.mono hbv.size)).tape
                · exact (hbv.trans (hb.mono hbv.size)).output
                · rw [Below.heap_setCell _ _ _ _ (by simp; omega), Below.heap_setCell _ _ _ _ (by simp; omega), Below.heap_setCell _ _ _ _ (by simp; omega)]
                  exact (hbv.trans (hb.mono hbv.size)).block kk hkk
              have HX1 : Hid ((((w2.setCell ⟨wr.heap.size, 0, none⟩ (.int .i64 vv.k)).setCell ⟨wr.heap.size, 1, none⟩ (.int .i64 vv.n)).setCell ⟨wr.heap.size, 2, none⟩ (.string vv.s)).ownsRow w.heap.size 42 3 (.slice va l.length vc) l.length (cellsOf l)) := hx.out.2.2.1.kept (row := none) hgw (by
                cases hob : Value.ownBlock (.slice va l.length vc) with
                | none => exact .inl rfl
                | some kk => exact .inr (by simp))
              have HBW : Hid (Below w.heap.size w (((w2.setCell ⟨wr.heap.size, 0, none⟩ (.int .i64 vv.k)).setCell ⟨wr.heap.size, 1, none⟩ (.int .i64 vv.n)).setCell ⟨wr.heap.size, 2, none⟩ (.string vv.s))) := ((HB2.out.setCell hws _).setCell hws _).setCell hws _
              obtain ⟨e0, e1, e2⟩ := set3 (.int .i64 vv.k) (.int .i64 vv.n) (.string vv.s) q0 q1 q2
              have hlk := hx.out.1
              have A1 : Hid (l.length + 1 ≤ maxLen) := by show _ ≤ _; unfold maxLen; omega
              have A2 : Hid ((l.length + 1) * 32 ≤ 140737488355328) := by show _ ≤ _; omega
              have hz2 : wr.heap.size < w2.heap.size := by have := hb.size; simp at this; omega
              have A3 : Hid (∀ O : Obj, w.heap.size ≤ ((((w2.setCell ⟨wr.heap.size, 0, none⟩ (.int .i64 vv.k)).setCell ⟨wr.heap.size, 1, none⟩ (.int .i64 vv.n)).setCell ⟨wr.heap.size, 2, none⟩ (.string vv.s)).alloc O).heap.size) := fun O => by simp; omega
              have A4 : Hid (∀ (t : TypeId) (j : Nat) (u : Value), ([.int .i64 vv.k, .int .i64 vv.n, .string vv.s] : List Value)[j]? = some u → ((((w2.setCell ⟨wr.heap.size, 0, none⟩ (.int .i64 vv.k)).setCell ⟨wr.heap.size, 1, none⟩ (.int .i64 vv.n)).setCell ⟨wr.heap.size, 2, none⟩ (.string vv.s)).alloc (.cells #[.int .i64 vv.k, .int .i64 vv.n, .string vv.s] t)).cell? ((⟨w2.heap.size, 0, none⟩ : Addr).add j) = some u) := by
                intro t j u hj
                have ha : (⟨w2.heap.size, 0, none⟩ : Addr).add j = ⟨w2.heap.size, j, none⟩ := by unfold Addr.add; split <;> simp_all
                rw [ha]
                have := World.cell?_alloc_mark (((w2.setCell ⟨wr.heap.size, 0, none⟩ (.int .i64 vv.k)).setCell ⟨wr.heap.size, 1, none⟩ (.int .i64 vv.n)).setCell ⟨wr.heap.size, 2, none⟩ (.string vv.s)) #[.int .i64 vv.k, .int .i64 vv.n, .string vv.s] t (0, 0) j
                simp only [World.size_setCell] at this
                refine this.trans ?_
                rw [← hj]; simp
              have A5 : Hid (∀ u ∈ ([.int .i64 vv.k, .int .i64 vv.n, .string vv.s] : List Value), u.oneCell' = true) := by
                intro u hu
                simp only [List.mem_cons, List.not_mem_nil, or_false] at hu
                rcases hu with rfl | rfl | rfl <;> rfl
              have HKR := Lib.hid hkr
              have HLK := Lib.hid hlk
              clear hb HV hgw hkr hlk hbv C0 F0 HBV
              go_wp2_with (at_builtin; (refine wpList_append_own _ rfl _ _ 25 rfl w.heap.size 42 i0 (.agg #[.int .i64 0, .int .i64 0, .string ⟨#[]⟩]) 3 32 Try.underlying25 HI.out HZ0.out HZ1.out HZ2.out rfl (by decide) _ _ _ rfl (HX1.out.alloc _) ⟨w2.heap.size, 0, none⟩ 1 1 [.int .i64 vv.k, .int .i64 vv.n, .string vv.s] (by simp [Act.eval]) rfl (A4.out _) A5.out A1.out A2.out (A3.out _) ?_); intro v' w3 hown2 hgr _; have HOWN := Lib.hid hown2; have HGR := Lib.hid hgr; clear hown2 hgr)
              go_roundg (n - (k + 1))
              case measure => omega
              case rel =>
                refine ⟨k + 1, p2, l ++ [vv], by omega, Nat.le_refl _, rfl, rfl, by go_num, hp2, ?_⟩
                refine ⟨by have := HLK.out; simp; omega, HE.out, ?_, ?_⟩
                · have h1 := HOWN.out
                  have h2 := cellsOf_snoc l vv.k vv.n vv.s
                  rw [← h2] at h1
                  rw [List.length_append, List.length_singleton]
                  exact h1
                · exact (HBW.out.alloc (by simp; omega) _).grown HGR.out (by simp; omega) (fun kk e => (HKR.out kk e).1)
          · have i1' : ¬ (k : Int) < n := by omega
            have i2' : decide ((k : Int) < n) = false := decide_eq_false i1'
            have hkn : k = n := by omega
            have HE : Hid (R = .ok (l, p')) := by
              show _ = _
              rw [hx.out.2.1, show n - k = 0 by omega]
              simp [rdVs, appR]
            have hll : l.length ≤ 4398046511104 := by have := hx.out.1; omega
            obtain ⟨va, vc, hv5⟩ := own_slice hx.out.2.2.1
            subst hv5
            clear hkn
            go_wp2_with fail
            refine bodyPost_ret (v := .tuple #[.slice va l.length vc, .int .i64 p', .int .i64 0]) (by simp [results, Try.results49, go_sem]) rfl ?_
            rw [HE.out]
            exact ⟨_, rfl, (rowT_own hx.out.2.2.1 hll).rowB.at (Nat.le_refl _), hx.out.2.2.2⟩
end Go.Proofs.Ytkhbephcmcnfjaa
