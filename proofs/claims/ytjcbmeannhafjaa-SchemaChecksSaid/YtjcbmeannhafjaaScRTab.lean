
/- Schemas: Name of the reference. -/
import Derived.Test.YtjcbmeannhafjaaScSound

import Derived.Test.YtjcbmeannhafjaaScCheck

import Derived.Test.YtjcbmeannhafjaaPdInts

import Derived.Deep.QuietTactic

import Derived.BigQuiet

namespace Go.Proofs.Ytjcbmeannhafjaa

open Go.RowKit Go.Deep

def nmA (s : ByteArray) : Nat → Nat → Bool
  | 0, _ => true
  | b + 1, k => (if h : k < s.size then latB (s[k]'h).toNat && nmA s b (k + 1) else true)
theorem nmA_some (s : ByteArray) (b k : Nat) (h : k < s.size) : nmA s (b + 1) k = (latB (s[k]'h).toNat && nmA s b (k + 1)) := by
  rw [nmA, dif_pos h]
theorem nmA_end (s : ByteArray) (b k : Nat) (h : s.size ≤ k) : nmA s b k = true := by
  cases b with
  | zero => rfl
  | succ b => rw [nmA, dif_neg (by omega)]
theorem nmT_A (s : ByteArray) : ∀ (b k : Nat), 1 ≤ k → nmT s b k = nmA s b k
  | 0, _, _ => rfl
  | b + 1, k, hk => by
    by_cases h : k < s.size
    · rw [nmT_some s b k h, nmA_some s b k h, nmT_A s b (k + 1) (by omega)]
      have e : (k != 0) = true := by simp; omega
      rw [e]
      cases h1 : letB (s[k]'h).toNat with
      | true => have : latB (s[k]'h).toNat = true := by unfold latB; rw [h1]; rfl
                rw [this]; rfl
      | false => simp
    · rw [nmT_end s _ _ (by omega), nmA_end s _ _ (by omega)]
theorem nameB_some (s : ByteArray) (h1 : 0 < s.size) (h2 : s.size ≤ 32) : nameB s = (letB (s[0]'h1).toNat && nmA s s.size 0) := by
  obtain ⟨b, hb⟩ : ∃ b, s.size = b + 1 := ⟨s.size - 1, by omega⟩
  unfold nameB
  rw [decide_eq_true (p := 1 ≤ s.size ∧ s.size ≤ 32) (by omega), hb, nmT_some s b 0 h1, nmA_some s b 0 h1, nmT_A s b 1 (by omega)]
  cases hl : letB (s[0]'h1).toNat with
  | true => have : latB (s[0]'h1).toNat = true := by unfold latB; rw [hl]; rfl
            rw [this]; rfl
  | false => rfl

set_option maxHeartbeats 2000000 in
theorem rName_any (s : ByteArray) (w : World) : Calls Try.prog 14 #[.string s] w fun e w' => e = .returned (.bool (nameB s)) ∧ w = w' := by
  obtain ⟨z, hz⟩ : ∃ z, nameB s = z := ⟨_, rfl⟩
  rw [hz]
  have HZ := Lib.hid hz
  clear hz
  by_cases h1 : s.size = 0
  · have HR : Hid (z = false) := by show _ = _; rw [← HZ.out]; unfold nameB; rw [decide_eq_false (p := 1 ≤ s.size ∧ s.size ≤ 32) (by omega)]; rfl
    have d1 : (s.size == 0) = true := by simpa using h1
    have d2 : ((s.size : Int) == 0) = true := by simpa using h1
    clear h1
    go_enter Try.func14, Try.ntmps14
    go_wp2_with fail
    go_ret
    exact ⟨by rw [HR.out]; rfl, rfl⟩
  · have d1 : (s.size == 0) = false := by simpa using h1
    have d2 : ((s.size : Int) == 0) = false := by simpa using h1
    by_cases h2 : 32 < s.size
    · have HR : Hid (z = false) := by show _ = _; rw [← HZ.out]; unfold nameB; rw [decide_eq_false (p := 1 ≤ s.size ∧ s.size ≤ 32) (by omega)]; rfl
      have d3 : decide (32 < (s.size : Int)) = true := decide_eq_true (by omega)
      have d4 : decide (32 < s.size) = true := decide_eq_true (by omega)
      clear h1
      go_enter Try.func14, Try.ntmps14
      go_wp2_with fail
      go_ret
      exact ⟨by rw [HR.out]; rfl, rfl⟩
    · have d3 : decide (32 < (s.size : Int)) = false := decide_eq_false (by omega)
      have d4 : decide (32 < s.size) = false := decide_eq_false (by omega)
      have hp0 : 0 < s.size := by omega
      have HN := Lib.hid (nameB_some s hp0 (by omega))
      obtain ⟨n0, hn0⟩ : ∃ n, (s[0]'hp0).toNat = n := ⟨_, rfl⟩
      rw [hn0] at HN
      clear h1
      by_cases h3 : n0 < 97
      · have HR : Hid (z = false) := by show _ = _; rw [← HZ.out, HN.out]; unfold letB; rw [decide_eq_false (p := 97 ≤ n0 ∧ n0 ≤ 122) (by omega)]; rfl
        have d5 : decide (n0 < 97) = true := decide_eq_true (by omega)
        have d6 : decide ((n0 : Int) < 97) = true := decide_eq_true (by omega)
        clear HN HZ h3
        go_enter Try.func14, Try.ntmps14
        go_wp2_with fail
        go_ret
        exact ⟨by rw [HR.out]; rfl, rfl⟩
      · have d5 : decide (n0 < 97) = false := decide_eq_false (by omega)
        have d6 : decide ((n0 : Int) < 97) = false := decide_eq_false (by omega)
        by_cases h4 : 122 < n0
        · have HR : Hid (z = false) := by show _ = _; rw [← HZ.out, HN.out]; unfold letB; rw [decide_eq_false (p := 97 ≤ n0 ∧ n0 ≤ 122) (by omega)]; rfl
          have d7 : decide (122 < n0) = true := decide_eq_true (by omega)
          have d8 : decide (122 < (n0 : Int)) = true := decide_eq_true (by omega)
          clear HN HZ h3 h4
          go_enter Try.func14, Try.ntmps14
          go_wp2_with fail
          go_ret
          exact ⟨by rw [HR.out]; rfl, rfl⟩
        · have d7 : decide (122 < n0) = false := decide_eq_false (by omega)
          have d8 : decide (122 < (n0 : Int)) = false := decide_eq_false (by omega)
          have HT0 : Hid (nmA s s.size 0 = z) := by show _ = _; rw [← HZ.out, HN.out]; unfold letB; rw [decide_eq_true (p := 97 ≤ n0 ∧ n0 ≤ 122) (by omega)]; rfl
          clear HN HZ h3 h4
          go_enter Try.func14, Try.ntmps14
          go_wp2_with fail
          clear d1 d2 d3 d4 d5 d6 d7 d8 hn0
          go_loop [3] (fun i => ∃ (k b : Nat), k ≤ s.size ∧ i = .int .i64 k ∧ Hid (nmA s b k = z) ∧ s.size ≤ k + b) (fun i => s.size - (intOf i).toNat)
          case atStart => exact ⟨0, s.size, by omega, rfl, HT0, by omega⟩
          case round =>
            obtain ⟨k, b, hk, rfl, HT, hb⟩ := hrel
            clear HT0
            by_cases hp : k < s.size
            · have hp' : (k : Int) < s.size := by omega
              obtain ⟨b, rfl⟩ : ∃ b', b = b' + 1 := ⟨b - 1, by omega⟩
              have HD := Lib.hid (nmA_some s b k hp)
              obtain ⟨n, hn⟩ : ∃ n, (s[k]'hp).toNat = n := ⟨_, rfl⟩
              rw [hn] at HD
              by_cases c0 : n < 48
              · skip
                have d0 : decide (n < 97) = true := decide_eq_true (by omega)
                have i0 : decide ((n : Int) < 97) = true := decide_eq_true (by omega)
                have d1 : decide (122 < n) = false := decide_eq_false (by omega)
                have i1 : decide (122 < (n : Int)) = false := decide_eq_false (by omega)
                have d2 : decide (n < 48) = true := decide_eq_true (by omega)
                have i2 : decide ((n : Int) < 48) = true := decide_eq_true (by omega)
                have d3 : decide (57 < n) = false := decide_eq_false (by omega)
                have i3 : decide (57 < (n : Int)) = false := decide_eq_false (by omega)
                have d4 : (n != 95) = true := by simp; omega
                have i4 : ((n : Int) != 95) = true := by simp; omega
                have hnl : latB n = false := by unfold latB letB; simp; omega
                rw [hnl] at HD
                have HR : Hid (z = false) := by show _ = _; rw [← HT.out, HD.out]; rfl
                clear hnl c0 HD HT
                go_wp2_with fail
                go_ret
                exact ⟨by rw [HR.out]; rfl, rfl⟩
              · skip
                by_cases c1 : n < 58
                · skip
                  have d0 : decide (n < 97) = true := decide_eq_true (by omega)
                  have i0 : decide ((n : Int) < 97) = true := decide_eq_true (by omega)
                  have d1 : decide (122 < n) = false := decide_eq_false (by omega)
                  have i1 : decide (122 < (n : Int)) = false := decide_eq_false (by omega)
                  have d2 : decide (n < 48) = false := decide_eq_false (by omega)
                  have i2 : decide ((n : Int) < 48) = false := decide_eq_false (by omega)
                  have d3 : decide (57 < n) = false := decide_eq_false (by omega)
                  have i3 : decide (57 < (n : Int)) = false := decide_eq_false (by omega)
                  have d4 : (n != 95) = true := by simp; omega
                  have i4 : ((n : Int) != 95) = true := by simp; omega
                  have hnl : latB n = true := by unfold latB letB; simp; omega
                  rw [hnl] at HD
                  have HR : Hid (nmA s b (k + 1) = z) := by show _ = _; rw [← HT.out, HD.out]; rfl
                  clear hnl c0 c1 HD HT
                  go_wp2_with fail
                  go_round
                  case rel => exact ⟨k + 1, b, by omega, by go_num, HR, by omega⟩
                  case measure => simp [intOf]; omega
                · skip
                  by_cases c2 : n < 95
                  · skip
                    have d0 : decide (n < 97) = true := decide_eq_true (by omega)
                    have i0 : decide ((n : Int) < 97) = true := decide_eq_true (by omega)
                    have d1 : decide (122 < n) = false := decide_eq_false (by omega)
                    have i1 : decide (122 < (n : Int)) = false := decide_eq_false (by omega)
                    have d2 : decide (n < 48) = false := decide_eq_false (by omega)
                    have i2 : decide ((n : Int) < 48) = false := decide_eq_false (by omega)
                    have d3 : decide (57 < n) = true := decide_eq_true (by omega)
                    have i3 : decide (57 < (n : Int)) = true := decide_eq_true (by omega)
                    have d4 : (n != 95) = true := by simp; omega
                    have i4 : ((n : Int) != 95) = true := by simp; omega
                    have hnl : latB n = false := by unfold latB letB; simp; omega
                    rw [hnl] at HD
                    have HR : Hid (z = false) := by show _ = _; rw [← HT.out, HD.out]; rfl
                    clear hnl c0 c1 c2 HD HT
                    go_wp2_with fail
                    go_ret
                    exact ⟨by rw [HR.out]; rfl, rfl⟩
                  · skip
                    by_cases c3 : n < 96
                    · skip
                      have d0 : decide (n < 97) = true := decide_eq_true (by omega)
                      have i0 : decide ((n : Int) < 97) = true := decide_eq_true (by omega)
                      have d1 : decide (122 < n) = false := decide_eq_false (by omega)
                      have i1 : decide (122 < (n : Int)) = false := decide_eq_false (by omega)
                      have d2 : decide (n < 48) = false := decide_eq_false (by omega)
                      have i2 : decide ((n : Int) < 48) = false := decide_eq_false (by omega)
                      have d3 : decide (57 < n) = true := decide_eq_true (by omega)
                      have i3 : decide (57 < (n : Int)) = true := decide_eq_true (by omega)
                      have d4 : (n != 95) = false := by simp; omega
                      have i4 : ((n : Int) != 95) = false := by simp; omega
                      have hnl : latB n = true := by unfold latB letB; simp; omega
                      rw [hnl] at HD
                      have HR : Hid (nmA s b (k + 1) = z) := by show _ = _; rw [← HT.out, HD.out]; rfl
                      clear hnl c0 c1 c2 c3 HD HT
                      go_wp2_with fail
                      go_round
                      case rel => exact ⟨k + 1, b, by omega, by go_num, HR, by omega⟩
                      case measure => simp [intOf]; omega
                    · skip
                      by_cases c4 : n < 97
                      · skip
                        have d0 : decide (n < 97) = true := decide_eq_true (by omega)
                        have i0 : decide ((n : Int) < 97) = true := decide_eq_true (by omega)
                        have d1 : decide (122 < n) = false := decide_eq_false (by omega)
                        have i1 : decide (122 < (n : Int)) = false := decide_eq_false (by omega)
                        have d2 : decide (n < 48) = false := decide_eq_false (by omega)
                        have i2 : decide ((n : Int) < 48) = false := decide_eq_false (by omega)
                        have d3 : decide (57 < n) = true := decide_eq_true (by omega)
                        have i3 : decide (57 < (n : Int)) = true := decide_eq_true (by omega)
                        have d4 : (n != 95) = true := by simp; omega
                        have i4 : ((n : Int) != 95) = true := by simp; omega
                        have hnl : latB n = false := by unfold latB letB; simp; omega
                        rw [hnl] at HD
                        have HR : Hid (z = false) := by show _ = _; rw [← HT.out, HD.out]; rfl
                        clear hnl c0 c1 c2 c3 c4 HD HT
                        go_wp2_with fail
                        go_ret
                        exact ⟨by rw [HR.out]; rfl, rfl⟩
                      · skip
                        by_cases c5 : n < 123
                        · skip
                          have d0 : decide (n < 97) = false := decide_eq_false (by omega)
                          have i0 : decide ((n : Int) < 97) = false := decide_eq_false (by omega)
                          have d1 : decide (122 < n) = false := decide_eq_false (by omega)
                          have i1 : decide (122 < (n : Int)) = false := decide_eq_false (by omega)
                          have d2 : decide (n < 48) = false := decide_eq_false (by omega)
                          have i2 : decide ((n : Int) < 48) = false := decide_eq_false (by omega)
                          have d3 : decide (57 < n) = true := decide_eq_true (by omega)
                          have i3 : decide (57 < (n : Int)) = true := decide_eq_true (by omega)
                          have d4 : (n != 95) = true := by simp; omega
                          have i4 : ((n : Int) != 95) = true := by simp; omega
                          have hnl : latB n = true := by unfold latB letB; simp; omega
                          rw [hnl] at HD
                          have HR : Hid (nmA s b (k + 1) = z) := by show _ = _; rw [← HT.out, HD.out]; rfl
                          clear hnl c0 c1 c2 c3 c4 c5 HD HT
                          go_wp2_with fail
                          go_round
                          case rel => exact ⟨k + 1, b, by omega, by go_num, HR, by omega⟩
                          case measure => simp [intOf]; omega
                        · skip
                          have d0 : decide (n < 97) = false := decide_eq_false (by omega)
                          have i0 : decide ((n : Int) < 97) = false := decide_eq_false (by omega)
                          have d1 : decide (122 < n) = true := decide_eq_true (by omega)
                          have i1 : decide (122 < (n : Int)) = true := decide_eq_true (by omega)
                          have d2 : decide (n < 48) = false := decide_eq_false (by omega)
                          have i2 : decide ((n : Int) < 48) = false := decide_eq_false (by omega)
                          have d3 : decide (57 < n) = true := decide_eq_true (by omega)
                          have i3 : decide (57 < (n : Int)) = true := decide_eq_true (by omega)
                          have d4 : (n != 95) = true := by simp; omega
                          have i4 : ((n : Int) != 95) = true := by simp; omega
                          have hnl : latB n = false := by unfold latB letB; simp; omega
                          rw [hnl] at HD
                          have HR : Hid (z = false) := by show _ = _; rw [← HT.out, HD.out]; rfl
                          clear hnl c0 c1 c2 c3 c4 c5 HD HT
                          go_wp2_with fail
                          go_ret
                          exact ⟨by rw [HR.out]; rfl, rfl⟩
            · have HR : Hid (z = true) := by show _ = _; rw [← HT.out]; exact nmA_end s b k (by omega)
              have hke : k = s.size := by omega
              subst hke
              clear HT
              go_wp2_with fail
              go_ret
              exact ⟨by rw [HR.out]; rfl, rfl⟩
end Go.Proofs.Ytjcbmeannhafjaa

/- The reference's table and references. -/
namespace Go.Proofs.Ytjcbmeannhafjaa

open Go.RowKit Go.Deep

/-- The first k columns' names, last first. -/
def colS (cs : List CL) (k : Nat) : List ByteArray := ((cs.take k).map CL.s).reverse
theorem colS_succ (cs : List CL) (k : Nat) (h : k < cs.length) : colS cs (k + 1) = cs[k].s :: colS cs k := by
  unfold colS; rw [List.take_succ_eq_append_getElem h, List.map_append, List.reverse_append]; rfl
def tabS (ts : List TB) (k : Nat) : List ByteArray := ((ts.take k).map TB.s).reverse
theorem tabS_succ (ts : List TB) (k : Nat) (h : k < ts.length) : tabS ts (k + 1) = ts[k].s :: tabS ts k := by
  unfold tabS; rw [List.take_succ_eq_append_getElem h, List.map_append, List.reverse_append]; rfl
theorem colS_mem {cs : List CL} {k j : Nat} (hj : j < k) (h : j < cs.length) : cs[j].s ∈ colS cs k := by
  unfold colS
  rw [List.mem_reverse]
  exact List.mem_map_of_mem (List.mem_iff_getElem.2 ⟨j, by simp; omega, by simp⟩)
theorem tabS_mem {ts : List TB} {k j : Nat} (hj : j < k) (h : j < ts.length) : ts[j].s ∈ tabS ts k := by
  unfold tabS
  rw [List.mem_reverse]
  exact List.mem_map_of_mem (List.mem_iff_getElem.2 ⟨j, by simp; omega, by simp⟩)
theorem colS_not {cs : List CL} {k : Nat} {s : ByteArray} (hk : k ≤ cs.length) (h : ∀ j (hj : j < cs.length), j < k → cs[j].s ≠ s) : memB s (colS cs k) = false := by
  refine memB_no fun hm => ?_
  unfold colS at hm
  rw [List.mem_reverse] at hm
  obtain ⟨c, hc, e⟩ := List.mem_map.1 hm
  obtain ⟨j, hj, rfl⟩ := List.getElem_of_mem hc
  simp only [List.length_take] at hj
  exact h j (by omega) (by omega) (by simpa using e)
theorem tabS_not {ts : List TB} {k : Nat} {s : ByteArray} (hk : k ≤ ts.length) (h : ∀ j (hj : j < ts.length), j < k → ts[j].s ≠ s) : memB s (tabS ts k) = false := by
  refine memB_no fun hm => ?_
  unfold tabS at hm
  rw [List.mem_reverse] at hm
  obtain ⟨c, hc, e⟩ := List.mem_map.1 hm
  obtain ⟨j, hj, rfl⟩ := List.getElem_of_mem hc
  simp only [List.length_take] at hj
  exact h j (by omega) (by omega) (by simpa using e)
/-- What table answers for the table at i. -/
def tabI (ts : List TB) (i : Nat) : Bool := match ts[i]? with
  | some t => (nameB t.s && !memB t.s (tabS ts i)) && (colsB [] t.cs && (decide (1 ≤ t.key) && decide (t.key ≤ t.cs.length)))
  | none => false
theorem tabsB_tabI (ts : List TB) (k : Nat) (h : k < ts.length) : tabsB (tabS ts k) (ts.drop k) = (tabI ts k && tabsB (tabS ts (k + 1)) (ts.drop (k + 1))) := by
  rw [tabsB_drop _ _ _ h, tabS_succ ts k h]
  unfold tabI
  rw [List.getElem?_eq_getElem h]
  simp only [Bool.and_assoc]

theorem blwN {B : Nat} {a w : World} (h : Below B a w) (n : Nat) : Below B a (w.drewN n) := h.trans ⟨rfl, rfl, rfl, Nat.le_refl _, fun _ _ => rfl⟩
def TabR (z : Bool) (w : World) (e : Ending) (w' : World) : Prop := e = .returned (.bool z) ∧ Below w.heap.size w w'

set_option linter.unusedSimpArgs false in
set_option maxRecDepth 100000 in
set_option maxHeartbeats 8000000 in
theorem rTable_any {P : Nat → Prop} (v : Value) (s : SC) (i : Nat) (hi : i < s.ts.length) (w : World) (h : Sc P w v s) : Calls Try.prog 39 #[v, .int .i64 i] w (TabR (tabI s.ts i) w) := by
  obtain ⟨tv, rfl, hs⟩ := h
  obtain ⟨a, c, rfl, hf⟩ := hs.shape
  obtain ⟨ver, ts⟩ := s
  dsimp only at hs hf hi ⊢
  obtain ⟨z, hz⟩ : ∃ z, tabI ts i = z := ⟨_, rfl⟩
  have hz2 := hz
  unfold tabI at hz2
  rw [List.getElem?_eq_getElem hi] at hz2
  dsimp only at hz2
  rw [hz]
  obtain ⟨b, off, rfl, -, hb, ca, cc, ra, rc, pa, pc, c0, c1, c2, c3, c4, ht⟩ := tab_get hs hi
  have HN : Hid (∀ j (hj : j < ts.length), w.cell? ⟨b, off + j * 5, none⟩ = some (.string ts[j].s)) := fun j hj => by
    obtain ⟨b', off', e, -, -, _, _, _, _, _, _, d0, -⟩ := tab_get hs hj
    simp only [Option.some.injEq, Addr.mk.injEq, and_true] at e
    obtain ⟨rfl, rfl⟩ := e
    exact d0
  have HC := Lib.hid ht.cols
  obtain ⟨n, hn⟩ : ∃ n, ts.length = n := ⟨_, rfl⟩
  have HL := Lib.hid hn
  obtain ⟨nm, hnm⟩ : ∃ nm, ts[i].s = nm := ⟨_, rfl⟩
  obtain ⟨cs, hcs⟩ : ∃ cs, ts[i].cs = cs := ⟨_, rfl⟩
  obtain ⟨key, hkey⟩ : ∃ key, ts[i].key = key := ⟨_, rfl⟩
  obtain ⟨nr, hnr⟩ : ∃ nr, ts[i].rs.length = nr := ⟨_, rfl⟩
  obtain ⟨np, hnp⟩ : ∃ np, ts[i].ck.length = np := ⟨_, rfl⟩
  rw [hnm, hcs, hkey] at hz2
  rw [hcs] at HC
  obtain ⟨m, hm⟩ : ∃ m, cs.length = m := ⟨_, rfl⟩
  have HM := Lib.hid hm
  rw [hnm] at c0
  rw [hcs, hm] at c1
  rw [hkey] at c2
  rw [hnr] at c3
  rw [hnp] at c4
  rw [hm] at HC hz2
  have hin : i < n := by rw [← hn]; exact hi
  have hin2 : (i : Int) < n := by omega
  have hn44 : n ≤ 17592186044416 := by rw [← hn]; exact hf.few
  have hm44 : m ≤ 17592186044416 := by obtain ⟨_, _, e, hf2⟩ := HC.out.shape; have := hf2.few; omega
  have HZ := Lib.hid hz2
  rw [hn]
  obtain ⟨nb, hnb⟩ : ∃ nb, nameB nm = nb := ⟨_, rfl⟩
  have HR : Hid (∀ W, Calls Try.prog 14 #[.string nm] W fun e w' => e = .returned (.bool nb) ∧ W = w') := fun W => by rw [← hnb]; exact rName_any nm W
  have HNB := Lib.hid hnb
  obtain ⟨wa, hwa⟩ : ∃ wa, (w.alloc (.cells #[.int .i64 ver, .slice (some ⟨b, off, none⟩) n c] 25)).alloc (.cells #[.string nm, .slice ca m cc, .int .i64 key, .slice ra nr rc, .slice pa np pc] 40) = wa := ⟨_, rfl⟩
  have BA : Hid (Below w.heap.size w wa) := by rw [← hwa]; exact ((Below.refl _ _).alloc (Nat.le_refl _) _).alloc (by simp) _
  have hza : wa.heap.size = w.heap.size + 2 := by rw [← hwa]; simp
  have s1 : wa.cell? ⟨w.heap.size, 1, none⟩ = some (.slice (some ⟨b, off, none⟩) n c) := by subst hwa; go_simp
  have t0 : wa.cell? ⟨w.heap.size + 1, 0, none⟩ = some (.string nm) := by subst hwa; go_simp
  have t1 : wa.cell? ⟨w.heap.size + 1, 1, none⟩ = some (.slice ca m cc) := by subst hwa; go_simp
  have t2 : wa.cell? ⟨w.heap.size + 1, 2, none⟩ = some (.int .i64 key) := by subst hwa; go_simp
  have HS : Hid (∀ W, Below wa.heap.size wa W → W.cell? ⟨w.heap.size, 1, none⟩ = some (.slice (some ⟨b, off, none⟩) n c) ∧ W.cell? ⟨w.heap.size + 1, 0, none⟩ = some (.string nm) ∧ W.cell? ⟨w.heap.size + 1, 1, none⟩ = some (.slice ca m cc) ∧ W.cell? ⟨w.heap.size + 1, 2, none⟩ = some (.int .i64 key)) := fun W hb2 =>
    ⟨(hb2.cell (p := ⟨w.heap.size, 1, none⟩) (show w.heap.size < _ by omega)).trans s1, (hb2.cell (p := ⟨w.heap.size + 1, 0, none⟩) (show w.heap.size + 1 < _ by omega)).trans t0, (hb2.cell (p := ⟨w.heap.size + 1, 1, none⟩) (show w.heap.size + 1 < _ by omega)).trans t1, (hb2.cell (p := ⟨w.heap.size + 1, 2, none⟩) (show w.heap.size + 1 < _ by omega)).trans t2⟩
  have hbw : b < wa.heap.size := by omega
  clear hs hf ht hn hnm hcs hkey hnr hnp hm hnb hz hz2
  go_enter Try.func39, Try.ntmps39
  go_upto_region 2 with fail
  try rw [hwa]
  have HCN : Hid (∀ j (hj : j < cs.length), ∃ cb co, ca = some ⟨cb, co, none⟩ ∧ cb < w.heap.size ∧ w.cell? ⟨cb, co + j * 2, none⟩ = some (.string cs[j].s) ∧ w.cell? ⟨cb, co + j * 2 + 1, none⟩ = some (.int .i64 cs[j].k)) := fun j hj => by
    obtain ⟨cb, co, e, -, h1, h2, h3⟩ := col_get HC.out hj
    exact ⟨cb, co, e, h1, h2, h3⟩
  clear HC c0 c1 c2 c3 c4 hwa
  cases nb with
  | false =>
    have hz0 : z = false := by rw [← HZ.out, HNB.out]; simp
    subst hz0
    clear HZ HNB
    go_wp2_with fail
    refine (HR.out _).mono ?_
    rintro e w' ⟨rfl, rfl⟩
    clear HR HN
    go_wp2_with fail
    go_ret
    exact ⟨rfl, BA.out⟩
  | true =>
    rw [HNB.out] at HZ
    clear HNB
    have hcase : m = 0 ∨ (0 < m ∧ key < 1) ∨ (0 < m ∧ 1 ≤ key ∧ (m : Int) < key) ∨ (0 < m ∧ 1 ≤ key ∧ key ≤ m) := by omega
    rcases hcase with rfl | ⟨hm0, hk⟩ | ⟨hm0, hk1, hk2⟩ | ⟨hm0, hk1, hk2⟩
    · have hz0 : z = false := by
        rw [← HZ.out]
        have : (decide (1 ≤ key) && decide (key ≤ ((0 : Nat) : Int))) = false := by simp; omega
        rw [this]; simp
      subst hz0
      clear HZ
      go_wp2_with fail
      refine (HR.out _).mono ?_
      rintro e w' ⟨rfl, rfl⟩
      clear HR HN
      go_wp2_with fail
      go_ret
      exact ⟨rfl, BA.out⟩
    · have hz0 : z = false := by
        rw [← HZ.out]
        have : (decide (1 ≤ key) && decide (key ≤ (m : Int))) = false := by simp; omega
        rw [this]; simp
      subst hz0
      have e1 : ((m : Int) == 0) = false := by simp; omega
      have e2 : decide (key < 1) = true := by simpa using hk
      clear HZ hk
      go_wp2_with fail
      refine (HR.out _).mono ?_
      rintro e w' ⟨rfl, rfl⟩
      clear HR HN
      go_wp2_with fail
      go_ret
      exact ⟨rfl, BA.out⟩
    · have hz0 : z = false := by
        rw [← HZ.out]
        have : (decide (1 ≤ key) && decide (key ≤ (m : Int))) = false := by simp; omega
        rw [this]; simp
      subst hz0
      have e1 : ((m : Int) == 0) = false := by simp; omega
      have e2 : decide (key < 1) = false := by simp; omega
      have e3 : decide ((m : Int) < key) = true := by simpa using hk2
      clear HZ hk1 hk2
      go_wp2_with fail
      refine (HR.out _).mono ?_
      rintro e w' ⟨rfl, rfl⟩
      clear HR HN
      go_wp2_with fail
      go_ret
      exact ⟨rfl, BA.out⟩
    · have HZ1 : Hid ((!memB nm (tabS ts i) && colsB [] cs) = z) := by
        show _ = _
        rw [← HZ.out]
        have h1 : decide (1 ≤ key) = true := by simpa using hk1
        have h2 : decide (key ≤ (m : Int)) = true := by simpa using hk2
        rw [h1, h2]; simp
      have e1 : ((m : Int) == 0) = false := by simp; omega
      have e2 : decide (key < 1) = false := by simp; omega
      have e3 : decide ((m : Int) < key) = false := by simp; omega
      have HII := Lib.hid hi
      clear HZ hk1 hk2
      go_wp2_with fail
      refine (HR.out _).mono ?_
      rintro e w' ⟨rfl, rfl⟩
      clear HR
      go_wp2_with fail
      clear e1 e2 e3
      go_loopw [6] (fun s6 wr => ∃ k : Nat, k ≤ i ∧ s6 = .int .i64 k ∧ Hid (Below wa.heap.size wa wr) ∧ Hid (∀ j (hj : j < ts.length), j < k → ts[j].s ≠ nm)) (fun s6 _ => i - (intOf s6).toNat)
      case atStart => exact ⟨0, by omega, rfl, Below.refl _ _, fun j hj h => absurd h (by omega)⟩
      case round =>
        obtain ⟨k, hk, rfl, HX, HNE⟩ := hrel
        obtain ⟨s1, t0, t1, t2⟩ := HS.out wr HX.out
        have hzr := HX.out.size
        have hl1 : w.heap.size < wr.heap.size := by omega
        have hl2 : w.heap.size + 1 < wr.heap.size := by omega
        by_cases hlt : k < i
        · have hlt2 : (k : Int) < i := by omega
          have hkt : k < ts.length := by rw [HL.out]; omega
          have hkn : k < n := by omega
          have hkn2 : (k : Int) < n := by omega
          have hbr : b < wr.heap.size := by omega
          have q0 : wr.cell? ⟨b, off + k * 5, none⟩ = some (.string ts[k].s) := ((BA.out.trans (HX.out.mono (by omega))).cell (p := ⟨b, off + k * 5, none⟩) hb).trans (HN.out k hkt)
          by_cases hx : ts[k].s = nm
          · have hz0 : z = false := by
              rw [← HZ1.out, memB_iff.2 (by rw [← hx]; exact tabS_mem hlt hkt)]; rfl
            subst hz0
            rw [hx] at q0
            clear HZ1 HNE hx
            go_upto_region 7 with fail
            go_quiet (fail)
            go_wp2_with fail
            go_ret
            exact ⟨rfl, BA.out.trans ((blwN HX.out _).mono (by omega))⟩
          · have HNX : Hid (∀ j (hj : j < ts.length), j < k + 1 → ts[j].s ≠ nm) := fun j hj hjk => by
              by_cases e : j = k
              · subst e; exact hx
              · exact HNE.out j hj (by omega)
            obtain ⟨y, hy⟩ : ∃ y, ts[k].s = y := ⟨_, rfl⟩
            rw [hy] at q0 hx
            have hx' := str_ne hx
            clear hy hx HNE
            go_upto_region 7 with fail
            go_quiet (fail)
            go_wp2_with fail
            go_roundw
            case rel => exact ⟨k + 1, by omega, by go_num, blwN HX.out _, HNX⟩
            case measure => simp [intOf]; omega
        · have hki : k = i := by omega
          subst hki
          have HZ2 : Hid (colsB (colS cs 0) (cs.drop 0) = z) := by
            show _ = _
            rw [← HZ1.out, tabS_not (Nat.le_of_lt HII.out) HNE.out]; rfl
          obtain ⟨w2, rfl⟩ : ∃ x, x = wr := ⟨wr, rfl⟩
          clear HZ1 HNE HN
          go_wp2_with fail
          go_loopw [54] (fun s54 wr => ∃ k : Nat, k ≤ m ∧ s54 = .int .i64 k ∧ Hid (Below wa.heap.size wa wr) ∧ Hid (colsB (colS cs k) (cs.drop k) = z)) (fun s54 _ => m - (intOf s54).toNat)
          case atStart => exact ⟨0, by omega, rfl, HX, HZ2⟩
          case round =>
            clear HZ2 HX s1 t0 t1 t2 hzr hl1 hl2
            obtain ⟨w3, rfl⟩ : ∃ x, x = wr := ⟨wr, rfl⟩
            obtain ⟨k, hk, rfl, HX, HZ⟩ := hrel
            obtain ⟨s1, t0, t1, t2⟩ := HS.out w3 HX.out
            have hzr := HX.out.size
            have hl1 : w.heap.size < w3.heap.size := by omega
            have hl2 : w.heap.size + 1 < w3.heap.size := by omega
            by_cases hlt : k < m
            · have hlt2 : (k : Int) < m := by omega
              have hkc : k < cs.length := by rw [HM.out]; exact hlt
              obtain ⟨cb, co, rfl, hcb, d0, d1⟩ := HCN.out k hkc
              have HB3 : Hid (Below w.heap.size w w3) := BA.out.trans (HX.out.mono (by omega))
              have q0 : w3.cell? ⟨cb, co + k * 2, none⟩ = some (.string cs[k].s) := (HB3.out.cell (p := ⟨cb, co + k * 2, none⟩) hcb).trans d0
              have q1 : w3.cell? ⟨cb, co + k * 2 + 1, none⟩ = some (.int .i64 cs[k].k) := (HB3.out.cell (p := ⟨cb, co + k * 2 + 1, none⟩) hcb).trans d1
              have hcb3 : cb < w3.heap.size := by have := HB3.out.size; omega
              have HD := Lib.hid (colsB_drop (colS cs k) cs k hkc)
              obtain ⟨x0, hx0⟩ : ∃ x0, cs[k].s = x0 := ⟨_, rfl⟩
              obtain ⟨x1, hx1⟩ : ∃ x1, cs[k].k = x1 := ⟨_, rfl⟩
              obtain ⟨nb, hnb⟩ : ∃ nb, nameB x0 = nb := ⟨_, rfl⟩
              obtain ⟨kb, hkb⟩ : ∃ kb, okK x1 = kb := ⟨_, rfl⟩
              have HN1 : Hid (∀ W, Calls Try.prog 14 #[.string x0] W fun e w' => e = .returned (.bool nb) ∧ W = w') := fun W => by rw [← hnb]; exact rName_any x0 W
              have HK1 : Hid (∀ W, Calls Try.prog 68 #[.int .i64 x1] W fun e w' => e = .returned (.bool kb) ∧ W = w') := fun W => by rw [← hkb]; exact (rColumnKind_any x1 W).mono fun e w' ⟨h1, h2⟩ => ⟨h1, h2⟩
              have HE : Hid (((nb && !memB x0 (colS cs k)) && (kb && colsB (colS cs (k + 1)) (cs.drop (k + 1)))) = z) := by
                show _ = _
                rw [← HZ.out, HD.out, colS_succ cs k hkc, hx0, hx1, hnb, hkb]
              have HX0 := Lib.hid hx0
              rw [hx0] at q0 d0
              rw [hx1] at q1 d1
              clear HD HZ hx0 hx1 hnb hkb d1
              have hcase : nb = false ∨ (nb = true ∧ kb = false) ∨ (nb = true ∧ kb = true) := by cases nb <;> cases kb <;> simp
              rcases hcase with rfl | ⟨rfl, rfl⟩ | ⟨rfl, rfl⟩
              · have hz0 : z = false := by rw [← HE.out]; simp
                subst hz0
                clear HE HX0 d0
                go_wp2_with fail
                refine (HN1.out _).mono ?_
                rintro e w' ⟨rfl, rfl⟩
                go_wp2_with fail
                go_ret
                exact ⟨rfl, HB3.out⟩
              · have hz0 : z = false := by rw [← HE.out]; simp
                subst hz0
                clear HE HX0 d0
                go_wp2_with fail
                refine (HN1.out _).mono ?_
                rintro e w' ⟨rfl, rfl⟩
                go_wp2_with fail
                refine (HK1.out _).mono ?_
                rintro e w' ⟨rfl, rfl⟩
                go_wp2_with fail
                go_ret
                exact ⟨rfl, HB3.out⟩
              · have HE2 : Hid ((!memB x0 (colS cs k) && colsB (colS cs (k + 1)) (cs.drop (k + 1))) = z) := by show _ = _; rw [← HE.out]; simp
                clear HE
                go_wp2_with fail
                refine (HN1.out _).mono ?_
                rintro e w' ⟨rfl, rfl⟩
                go_wp2_with fail
                refine (HK1.out _).mono ?_
                rintro e w' ⟨rfl, rfl⟩
                clear HN1 HK1 q0 q1
                go_wp2_with fail
                go_loopw [8] (fun s8 wr => ∃ j : Nat, j ≤ k ∧ s8 = .int .i64 j ∧ Hid (Below wa.heap.size wa wr) ∧ Hid (∀ r (hr : r < cs.length), r < j → cs[r].s ≠ x0)) (fun s8 _ => k - (intOf s8).toNat)
                case atStart => exact ⟨0, by omega, rfl, HX, fun r hr h => absurd h (by omega)⟩
                case round =>
                  clear s1 t0 t1 t2 hzr hl1 hl2 HB3 hcb3 HX
                  obtain ⟨j, hj, rfl, HX, HNE⟩ := hrel
                  obtain ⟨s1, t0, t1, t2⟩ := HS.out wr HX.out
                  have hzr := HX.out.size
                  have hl1 : w.heap.size < wr.heap.size := by omega
                  have hl2 : w.heap.size + 1 < wr.heap.size := by omega
                  have HB4 : Hid (Below w.heap.size w wr) := BA.out.trans (HX.out.mono (by omega))
                  have hcb4 : cb < wr.heap.size := by have := HB4.out.size; omega
                  by_cases hjk : j < k
                  · have hjk2 : (j : Int) < k := by omega
                    have hjc : j < cs.length := by rw [HM.out]; omega
                    have hjm : j < m := by omega
                    have hjm2 : (j : Int) < m := by omega
                    obtain ⟨cb', co', e, -, d2, -⟩ := HCN.out j hjc
                    simp only [Option.some.injEq, Addr.mk.injEq, and_true] at e
                    obtain ⟨rfl, rfl⟩ := e
                    have q0 : wr.cell? ⟨cb, co + k * 2, none⟩ = some (.string x0) := (HB4.out.cell (p := ⟨cb, co + k * 2, none⟩) hcb).trans d0
                    have q2 : wr.cell? ⟨cb, co + j * 2, none⟩ = some (.string cs[j].s) := (HB4.out.cell (p := ⟨cb, co + j * 2, none⟩) hcb).trans d2
                    clear d2
                    by_cases hx : cs[j].s = x0
                    · have hz0 : z = false := by rw [← HE2.out, memB_iff.2 (by rw [← hx]; exact colS_mem hjk hjc)]; rfl
                      subst hz0
                      rw [hx] at q2
                      clear HE2 HNE hx d0
                      go_upto_region 17 with fail
                      go_quiet (fail)
                      go_wp2_with fail
                      go_ret
                      exact ⟨rfl, blwN HB4.out _⟩
                    · have HNX : Hid (∀ r (hr : r < cs.length), r < j + 1 → cs[r].s ≠ x0) := fun r hr hrj => by
                        by_cases e : r = j
                        · subst e; exact hx
                        · exact HNE.out r hr (by omega)
                      obtain ⟨y, hy⟩ : ∃ y, cs[j].s = y := ⟨_, rfl⟩
                      rw [hy] at q2 hx
                      have hx' := str_ne hx
                      clear hy hx HNE d0
                      go_upto_region 17 with fail
                      go_quiet (fail)
                      go_wp2_with fail
                      go_roundw
                      case rel => exact ⟨j + 1, by omega, by go_num, blwN HX.out _, HNX⟩
                      case measure => simp [intOf]; omega
                  · have hjk2 : j = k := by omega
                    subst hjk2
                    have HZ3 : Hid (colsB (colS cs (j + 1)) (cs.drop (j + 1)) = z) := by
                      show _ = _
                      rw [← HE2.out, colS_not (Nat.le_of_lt hkc) HNE.out]; rfl
                    clear HE2 HNE d0 HX0
                    go_wp2_with fail
                    go_roundw
                    case rel => exact ⟨j + 1, by omega, by go_num, HX, HZ3⟩
                    case measure => simp [intOf]; omega
            · have hz0 : z = true := by rw [← HZ.out]; exact colsB_end _ _ _ (by rw [HM.out]; omega)
              subst hz0
              clear HZ
              go_wp2_with fail
              go_ret
              exact ⟨rfl, BA.out.trans (HX.out.mono (by omega))⟩
end Go.Proofs.Ytjcbmeannhafjaa
