/- The decoder's rows. -/
import Derived.Test.YtkhbephcmcnfjaaDecValue
import Derived.Test.YtkhbephcmcnfjaaCase5
namespace Go.Proofs.Ytkhbephcmcnfjaa
open Go.RowKit Go.Deep

/-- n values from a place on, and the place behind them. -/
def rdVs (L : List UInt8) : Nat → Nat → Except Int (List V × Nat)
  | 0, p => .ok ([], p)
  | n + 1, p => match rdV L p with
    | .error e => .error e
    | .ok (v, q) => match rdVs L n q with
      | .error e => .error e
      | .ok (l, r) => .ok (v :: l, r)
def rdRow (L : List UInt8) (p : Nat) : Except Int (List V × Nat) := match rdUint L p with
  | .error e => .error e
  | .ok (n, q) => if 12 < n then .error 2 else rdVs L n q

theorem make_u64 (n : Nat) (hn : n ≤ 4398046511104) (w : World) : ∃ M : Array Value, M.size = n * 3 ∧ (Instr.makeSlice 25 (.int .u64 (n : Int)) (.int .u64 (n : Int))).run Try.prog w = .ok (.slice (some ⟨w.heap.size, 0, none⟩) n n) (w.alloc (.cells M 42 (0, 0))) := by
  have hinfo : (Try.prog.info? 42).map (fun i => (i.zero, i.size, i.bytes)) = some (some (.agg #[.int .i64 0, .int .i64 0, .string ⟨#[]⟩]), 3, 32) := by kernel_rfl
  obtain ⟨i, hi, hzz⟩ := Option.map_eq_some_iff.1 hinfo
  simp only [Prod.mk.injEq] at hzz
  obtain ⟨hz, hs, hb⟩ := hzz
  have h := run_make (P := Try.prog) w 25 42 i _ Try.underlying25 hi hz .u64 .u64 n n (by omega) (Int.le_refl _) (by rw [hb]; omega) (by omega)
  simp only [Int.toNat_natCast, hs] at h
  exact ⟨_, size_madeCells _ _, h⟩

def appR (l : List V) : Except Int (List V × Nat) → Except Int (List V × Nat)
  | .error e => .error e
  | .ok (m, r) => .ok (l ++ m, r)
theorem appR_nil (r : Except Int (List V × Nat)) : appR [] r = r := by
  cases r with
  | error e => rfl
  | ok x => rfl
theorem rdVs_step (L : List UInt8) (n p q : Nat) (v : V) (l : List V) (h : rdV L p = .ok (v, q)) : appR l (rdVs L (n + 1) p) = appR (l ++ [v]) (rdVs L n q) := by
  rw [rdVs, h]
  simp only
  cases he : rdVs L n q with
  | error e => rfl
  | ok x => obtain ⟨m, r⟩ := x; simp [appR]
theorem rdVs_stop (L : List UInt8) (n p : Nat) (e : Int) (l : List V) (h : rdV L p = .error e) : appR l (rdVs L (n + 1) p) = .error e := by
  rw [rdVs, h]; rfl

/-- What the decoder's row does. -/
def DecPostR (bd B : Nat) (L : List UInt8) (r : Except Int (List V × Nat)) (w : World) (e : Ending) (w' : World) : Prop :=
  Mv bd w w' ∧ match r with
    | .error n => e = stop n
    | .ok (l, p) => ∃ rb, e = .returned (.slice (some ⟨rb, 0, none⟩) l.length l.length) ∧ w.heap.size ≤ rb ∧ rb < w'.heap.size ∧ l.length ≤ 12 ∧ (∀ i (h : i < l.length), CellsV w' rb (0 + i * 3) l[i]) ∧ DecOk bd B L p w'

/-- Block rb is a row of n values, of which the first ones are l. -/
structure Part (rb n : Nat) (l : List V) (w : World) : Prop where
  lt : rb < w.heap.size
  all : ∀ o, o < n * 3 → (∃ v, w.cell? ⟨rb, o, none⟩ = some v) ∧ w.frozen? ⟨rb, o, none⟩ = false
  done : ∀ i (h : i < l.length), CellsV w rb (i * 3) l[i]
theorem Part.mv {rb n bd : Nat} {l : List V} {w w' : World} (h : Part rb n l w) (hm : Mv bd w w') (hb : rb ≠ bd) : Part rb n l w' := by
  have hk := hm.block rb h.lt hb
  refine ⟨Nat.lt_of_lt_of_le h.lt hm.size, fun o ho => ?_, fun i hi => CellsV.same hk (h.done i hi)⟩
  obtain ⟨⟨v, hv⟩, hf⟩ := h.all o ho
  exact ⟨⟨v, (World.cell?_of_block (a := ⟨rb, o, none⟩) hk).trans hv⟩, (World.frozen?_of_block (a := ⟨rb, o, none⟩) hk).trans hf⟩
theorem cell_set {w : World} {r o i : Nat} {x : Value} (v : Value) (h : w.cell? ⟨r, i, none⟩ = some x) : (w.setCell ⟨r, o, none⟩ v).cell? ⟨r, i, none⟩ = some (if i = o then v else x) := by
  by_cases e : i = o
  · subst e; rw [if_pos rfl]; exact World.cell?_setCell_same (v := v) (h := h)
  · rw [if_neg e, World.cell?_setCell_other _ _ _ _ (by first | (simp; done) | (simp; omega) | (intro h2; simp at h2; omega))]; exact h
theorem Part.add {rb n k : Nat} {l : List V} {w : World} (h : Part rb n l w) (hk : l.length = k) (hn : k < n) (v : V) :
    Part rb n (l ++ [v]) (((w.setCell ⟨rb, k * 3, none⟩ (.int .i64 v.k)).setCell ⟨rb, k * 3 + 1, none⟩ (.int .i64 v.n)).setCell ⟨rb, k * 3 + 2, none⟩ (.string v.s)) := by
  refine ⟨by simp; exact h.lt, fun o ho => ?_, fun i hi => ?_⟩
  · obtain ⟨⟨x, hx⟩, hf⟩ := h.all o ho
    exact ⟨⟨_, cell_set _ (cell_set _ (cell_set _ hx))⟩, by rw [World.frozen?_setCell, World.frozen?_setCell, World.frozen?_setCell]; exact hf⟩
  · by_cases e : i < l.length
    · obtain ⟨a0, a1, a2⟩ := h.done i e
      rw [List.getElem_append_left e]
      refine ⟨?_, ?_, ?_⟩
      · rw [cell_set _ (cell_set _ (cell_set _ a0)), if_neg (by omega), if_neg (by omega), if_neg (by omega)]
      · rw [cell_set _ (cell_set _ (cell_set _ a1)), if_neg (by omega), if_neg (by omega), if_neg (by omega)]
      · rw [cell_set _ (cell_set _ (cell_set _ a2)), if_neg (by omega), if_neg (by omega), if_neg (by omega)]
    · simp only [List.length_append, List.length_singleton] at hi
      obtain rfl : i = l.length := by omega
      subst hk
      obtain ⟨⟨x0, c0⟩, _⟩ := h.all (l.length * 3) (by omega)
      obtain ⟨⟨x1, c1⟩, _⟩ := h.all (l.length * 3 + 1) (by omega)
      obtain ⟨⟨x2, c2⟩, _⟩ := h.all (l.length * 3 + 2) (by omega)
      rw [List.getElem_append_right (Nat.le_refl _)]
      simp only [Nat.sub_self, List.getElem_cons_zero]
      refine ⟨?_, ?_, ?_⟩
      · rw [cell_set _ (cell_set _ (cell_set _ c0)), if_neg (by omega), if_neg (by omega), if_pos rfl]
      · rw [cell_set _ (cell_set _ (cell_set _ c1)), if_neg (by omega), if_pos rfl]
      · rw [cell_set _ (cell_set _ (cell_set _ c2)), if_pos rfl]

set_option maxRecDepth 100000 in
set_option maxHeartbeats 8000000 in
theorem dRow_any (bd B : Nat) (L : List UInt8) (p : Nat) (w : World) (h : DecOk bd B L p w) (hL : L.length ≤ 4398046511104) :
    Calls Try.prog 85 #[.pointer (some ⟨bd, 0, none⟩)] w (DecPostR bd B L (rdRow L p) w) := by
  unfold rdRow
  obtain ⟨r, hr⟩ : ∃ r, rdUint L p = r := ⟨_, rfl⟩
  have HU := Lib.hid (dUint_any bd B L p w h)
  have hlt0 := h.lt
  rw [hr] at HU ⊢
  cases r with
  | error e =>
    clear h hr
    go_enter Try.func85, Try.ntmps85
    go_wp2_with fail
    refine HU.out.mono ?_
    rintro en w1 ⟨hm, rfl⟩
    exact ⟨rfl, hm, rfl⟩
  | ok x =>
    obtain ⟨n, q⟩ := x
    have hn := rdUint_lt hr
    clear h hr
    by_cases h12 : 12 < n
    · have d1 : decide ((n : Int) ≤ 12) = false := decide_eq_false (by omega)
      have d1' : decide (n ≤ 12) = false := decide_eq_false (by omega)
      have HQ := Lib.hid (req_no 2)
      simp only [if_pos h12]
      go_enter Try.func85, Try.ntmps85
      go_wp2_with fail
      refine HU.out.mono ?_
      rintro en w1 ⟨hm, rfl, hok⟩
      have HM := Lib.hid hm
      clear hm hok HU
      go_wp2_with fail
      refine (HQ.out _).mono ?_
      rintro en w2 ⟨rfl, rfl⟩
      exact ⟨rfl, HM.out, rfl⟩
    · have d1 : decide ((n : Int) ≤ 12) = true := decide_eq_true (by omega)
      have d1' : decide (n ≤ 12) = true := decide_eq_true (by omega)
      have HQ := Lib.hid (req_yes 2)
      simp only [if_neg h12]
      obtain ⟨R, hR⟩ : ∃ R, rdVs L n q = R := ⟨_, rfl⟩
      have HRR := Lib.hid hR
      rw [hR]
      clear hR
      go_enter Try.func85, Try.ntmps85
      go_wp2_with fail
      refine HU.out.mono ?_
      rintro en w1 ⟨hm, rfl, hok⟩
      have HM := Lib.hid hm
      have HOK := Lib.hid hok
      have hsz := hm.size
      clear hm hok HU
      go_wp2_with fail
      refine (HQ.out _).mono ?_
      rintro en w2 ⟨rfl, rfl⟩
      obtain ⟨M, hM, hmk⟩ := make_u64 n (by omega) w2
      have hlt2 := HOK.out.lt
      have hbl : Below w2.heap.size w2 (w2.alloc (.cells M 42 (0, 0))) := (Below.refl _ _).alloc (Nat.le_refl _) _
      have HOK3 : Hid (DecOk bd B L q (w2.alloc (.cells M 42 (0, 0)))) := HOK.out.below hbl hlt2.2
      have HM3 : Hid (Mv bd w2 (w2.alloc (.cells M 42 (0, 0)))) := (Mv.refl _ _).alloc _
      have HP0 : Hid (Part w2.heap.size n [] (w2.alloc (.cells M 42 (0, 0)))) := by
        refine ⟨by simp, fun o ho => ?_, fun i hi => absurd hi (by simp)⟩
        have hc := World.cell?_alloc_mark w2 M 42 (0, 0) o
        rw [Array.getElem?_eq_getElem (by omega)] at hc
        exact ⟨⟨_, hc⟩, by rw [World.frozen?_alloc_mark]; simp⟩
      have hne : w2.heap.size ≠ bd := by omega
      clear hM hbl
      go_wp2_with fail
      go_loopg [15] n (fun g i wr => ∃ (k p' : Nat) (l : List V), k ≤ n ∧ n - k ≤ g ∧ i = .int .i64 k ∧ l.length = k ∧ Hid (R = appR l (rdVs L (n - k) p')) ∧ Hid (DecOk bd B L p' wr) ∧ Hid (Mv bd w2 wr) ∧ Hid (Part w2.heap.size n l wr))
      case atStart => exact ⟨0, q, [], by omega, by omega, rfl, rfl, by show _ = _; rw [appR_nil, Nat.sub_zero]; exact HRR.out.symm, HOK3, HM3, HP0⟩
      case round =>
        clear HP0 HOK3 HM3 HRR hmk
        obtain ⟨k, p', l, hk, hg, rfl, hlk, hR, hok, hm, hpt⟩ := hrel
        by_cases i1 : k < n
        · have i1' : (k : Int) < n := by omega
          have k0 : (0 : Int) ≤ k := by omega
          obtain ⟨r, hr⟩ : ∃ r, rdV L p' = r := ⟨_, rfl⟩
          have HV := Lib.hid (dValue_any bd B L p' wr hok.out hL)
          rw [hr] at HV
          have HR2 := Lib.hid hr
          clear hr
          cases r with
          | error e =>
            have HE : Hid (R = .error e) := by
              show _ = _
              rw [hR.out, show n - k = (n - (k + 1)) + 1 by omega, rdVs_stop _ _ _ _ _ HR2.out]
            go_wp2_with fail
            refine HV.out.mono ?_
            rintro en w3 ⟨hm3, rfl⟩
            refine ⟨rfl, HM.out.trans (hm.out.trans hm3), ?_⟩
            rw [HE.out]
            rfl
          | ok x =>
            obtain ⟨v, p2⟩ := x
            have HE : Hid (R = appR (l ++ [v]) (rdVs L (n - (k + 1)) p2)) := by
              show _ = _
              rw [hR.out, show n - k = (n - (k + 1)) + 1 by omega, rdVs_step _ _ _ _ _ _ HR2.out]
            go_wp2_with fail
            refine HV.out.mono ?_
            rintro en w3 ⟨hm3, rfl, hok3⟩
            have hpt3 := hpt.out.mv hm3 hne
            obtain ⟨⟨x0, c0⟩, f0⟩ := hpt3.all (k * 3) (by omega)
            obtain ⟨⟨x1, c1⟩, f1⟩ := hpt3.all (k * 3 + 1) (by omega)
            obtain ⟨⟨x2, c2⟩, f2⟩ := hpt3.all (k * 3 + 2) (by omega)
            have HPT := Lib.hid hpt3
            have HOK3 := Lib.hid hok3
            have HM3 : Hid (Mv bd w2 w3) := hm.out.trans hm3
            clear hpt3 hok3 hm3 HV
            go_wp2_with fail
            go_roundg (n - (k + 1))
            case measure => omega
            case rel => exact ⟨k + 1, p2, l ++ [v], by omega, Nat.le_refl _, by go_num, by simp [hlk], HE, HOK3.out.below (B' := B) (((Below.refl B w3).setCell (by simp; omega) _).setCell (by simp; omega) _ |>.setCell (by simp; omega) _) (Nat.le_refl _), ((HM3.out.setNew (Nat.le_refl _) _ _).setNew (Nat.le_refl _) _ _).setNew (Nat.le_refl _) _ _, HPT.out.add hlk i1 v⟩
        · have i1' : ¬ (k : Int) < n := by omega
          have i2' : decide ((k : Int) < n) = false := decide_eq_false i1'
          have hkn : k = n := by omega
          have HE : Hid (R = .ok (l, p')) := by
            show _ = _
            rw [hR.out, show n - k = 0 by omega]
            simp [rdVs, appR]
          have HLN : Hid (n = l.length) := by show _ = _; omega
          have hlt := hpt.out.lt
          clear hkn hlk
          go_wp2_with fail
          go_ret
          refine ⟨HM.out.trans hm.out, ?_⟩
          rw [HE.out]
          have hln := HLN.out
          refine ⟨w2.heap.size, by rw [← hln]; rfl, by omega, hlt, by omega, fun i hi => ?_, hok.out⟩
          rw [Nat.zero_add]
          exact hpt.out.done i hi
end Go.Proofs.Ytkhbephcmcnfjaa
