/- Walks of Has, the program's and the reference's. -/
import Derived.Test.YtkhbephcmcnfjaaRCopy
namespace Go.Proofs.Ytkhbephcmcnfjaa
open Go.RowKit Go.Deep

theorem mem_split (xs : List E) (r : List V) (k : Nat) (hk : k < xs.length) (h : ∀ j (_ : j < xs.length), j < k → xs[j].2 ≠ r) (hn : xs[k].2 ≠ r) : ∀ j (_ : j < xs.length), j < k + 1 → xs[j].2 ≠ r := fun j hj hj2 => by
  by_cases e : j = k
  · subst e; exact hn
  · exact h j hj (by omega)
theorem mem_none (xs : List E) (r : List V) (h : ∀ j (_ : j < xs.length), xs[j].2 ≠ r) : decide (r ∈ xs.map (·.2)) = false := decide_eq_false (fun hm => by
  obtain ⟨x, hx, e⟩ := List.mem_map.1 hm
  obtain ⟨j, hj, rfl⟩ := List.getElem_of_mem hx
  exact h j hj e)

set_option maxHeartbeats 400000 in
theorem rHas_any (va rv : Value) (xs : List E) (r : List V) (w : World) (ha : RowsB w.heap.size w va xs) (hr : RowAt w rv r) :
    Calls Try.prog 18 #[va, rv] w fun e w' => e = .returned (.bool (decide (r ∈ xs.map (·.2)))) ∧ Gr w w' := by
  obtain ⟨a1, c1, rfl, n1, hx1, hi1⟩ := ha
  obtain ⟨ra, rc, erv⟩ : ∃ a c, rv = .slice a r.length c := by obtain ⟨a, c, e, _⟩ := hr; exact ⟨a, c, e⟩
  subst erv
  have HR := Lib.hid hr.b
  have H1 := Lib.hid hx1
  have I1 := Lib.hid hi1
  clear hx1 hi1 hr
  obtain ⟨n, hn⟩ : ∃ n, xs.length = n := ⟨_, rfl⟩
  rw [hn]
  rw [hn] at n1
  go_enter Try.func18, Try.ntmps18
  go_wp2_with fail
  go_loopg [9] n (fun g i wr => ∃ k : Nat, k ≤ n ∧ n - k ≤ g ∧ i = .int .i64 k ∧ Hid (Gr w wr) ∧ Hid (∀ j (_ : j < xs.length), j < k → xs[j].2 ≠ r))
  case atStart => exact ⟨0, by omega, by omega, rfl, Gr.refl _, fun j _ h => by omega⟩
  case round =>
    obtain ⟨k, hk, hgk, rfl, hg, ht⟩ := hrel
    by_cases hlt : k < n
    · have hkd : decide ((k : Int) < n) = true := decide_eq_true (by omega)
      have hkd' : decide (k < n) = true := decide_eq_true hlt
      have k1 : k < xs.length := by omega
      obtain ⟨b1, o1, ea, hb1, hc1⟩ := I1.out k k1
      subst ea
      have hr1 := H1.out _ (List.getElem_mem k1)
      have HE1 : Hid (xs[k].2 ≠ r → ∀ j (_ : j < xs.length), j < k + 1 → xs[j].2 ≠ r) := mem_split xs r k k1 ht.out
      have HE2 : Hid (xs[k].2 = r → decide (r ∈ xs.map (·.2)) = true) := fun e => decide_eq_true (List.mem_map.2 ⟨_, List.getElem_mem k1, e⟩)
      generalize xs[k] = p at hc1 hr1 HE1 HE2
      obtain ⟨pv, pl⟩ := p
      simp only at hc1 hr1 HE1 HE2
      obtain ⟨pa, pc, hpv⟩ : ∃ a c, pv = .slice a pl.length c := by obtain ⟨a, c, e, _⟩ := hr1; exact ⟨a, c, e⟩
      subst hpv
      have p1 : wr.cell? ⟨b1, o1 + k, none⟩ = some (.slice pa pl.length pc) := (hg.out.below.cell (p := ⟨b1, o1 + k, none⟩) hb1).trans hc1
      have HP : Hid (∀ W, Below w.heap.size w W → Calls Try.prog 50 #[.slice pa pl.length pc, .slice ra r.length rc] W fun e w' => e = .returned (.int .i64 (cmpRows pl r)) ∧ Gr W w') := fun W hb =>
        rCompareRows_any _ _ _ _ W ((hr1.below hb (Nat.le_refl _)).at hb.size) ((HR.out.below hb (Nat.le_refl _)).at hb.size)
      have hz : cmpRows pl r = 0 ↔ pl = r := cmpRows_zero pl r
      obtain ⟨c, hc⟩ : ∃ c, cmpRows pl r = c := ⟨_, rfl⟩
      rw [hc] at HP
      rw [hc] at hz
      have HZ := Lib.hid hz
      have k0 : (0 : Int) ≤ k := by omega
      clear hz hc hc1 hr1 hb1
      go_wp2_with fail
      refine (HP.out _ hg.out.below).mono ?_
      rintro e wz ⟨rfl, hgz⟩
      have HG : Hid (Gr w wz) := hg.out.trans hgz
      clear hgz
      by_cases hc : c = 0
      · subst hc
        have hd := Lib.hid (HE2.out (HZ.out.1 rfl))
        go_wp2_with fail
        go_ret
        rw [hd.out]
        exact ⟨rfl, HG.out⟩
      · have hcb : (c == 0) = false := by simpa using hc
        have ht' := Lib.hid (HE1.out (fun e => hc (HZ.out.2 e)))
        go_wp2_with fail
        go_roundg (n - (k + 1))
        case measure => omega
        case rel => exact ⟨k + 1, by omega, Nat.le_refl _, by go_num, HG, ht'⟩
    · have hkd : decide ((k : Int) < n) = false := decide_eq_false (by omega)
      have hkd' : decide (k < n) = false := decide_eq_false hlt
      have hd : Hid (decide (r ∈ xs.map (·.2)) = false) := mem_none xs r (fun j hj => ht.out j hj (by omega))
      go_wp2_with fail
      go_ret
      rw [hd.out]
      exact ⟨rfl, hg.out⟩

set_option maxHeartbeats 400000 in
theorem vHas_any (va rv : Value) (xs : List E) (r : List V) (w : World) (ha : RowsB w.heap.size w va xs) (hr : RowAt w rv r) :
    Calls Try.prog 17 #[va, rv] w fun e w' => e = .returned (.bool (decide (r ∈ xs.map (·.2)))) ∧ Gr w w' := by
  obtain ⟨a1, c1, rfl, n1, hx1, hi1⟩ := ha
  obtain ⟨ra, rc, erv⟩ : ∃ a c, rv = .slice a r.length c := by obtain ⟨a, c, e, _⟩ := hr; exact ⟨a, c, e⟩
  subst erv
  have HR := Lib.hid hr.b
  have H1 := Lib.hid hx1
  have I1 := Lib.hid hi1
  clear hx1 hi1 hr
  obtain ⟨n, hn⟩ : ∃ n, xs.length = n := ⟨_, rfl⟩
  rw [hn]
  rw [hn] at n1
  go_enter Try.func17, Try.ntmps17
  go_wp2_with fail
  go_loopg [9] n (fun g i wr => ∃ k : Nat, k ≤ n ∧ n - k ≤ g ∧ i = .int .i64 k ∧ Hid (Gr w wr) ∧ Hid (∀ j (_ : j < xs.length), j < k → xs[j].2 ≠ r))
  case atStart => exact ⟨0, by omega, by omega, rfl, Gr.refl _, fun j _ h => by omega⟩
  case round =>
    obtain ⟨k, hk, hgk, rfl, hg, ht⟩ := hrel
    by_cases hlt : k < n
    · have hkd : decide ((k : Int) < n) = true := decide_eq_true (by omega)
      have hkd' : decide (k < n) = true := decide_eq_true hlt
      have k1 : k < xs.length := by omega
      obtain ⟨b1, o1, ea, hb1, hc1⟩ := I1.out k k1
      subst ea
      have hr1 := H1.out _ (List.getElem_mem k1)
      have HE1 : Hid (xs[k].2 ≠ r → ∀ j (_ : j < xs.length), j < k + 1 → xs[j].2 ≠ r) := mem_split xs r k k1 ht.out
      have HE2 : Hid (xs[k].2 = r → decide (r ∈ xs.map (·.2)) = true) := fun e => decide_eq_true (List.mem_map.2 ⟨_, List.getElem_mem k1, e⟩)
      generalize xs[k] = p at hc1 hr1 HE1 HE2
      obtain ⟨pv, pl⟩ := p
      simp only at hc1 hr1 HE1 HE2
      obtain ⟨pa, pc, hpv⟩ : ∃ a c, pv = .slice a pl.length c := by obtain ⟨a, c, e, _⟩ := hr1; exact ⟨a, c, e⟩
      subst hpv
      have p1 : wr.cell? ⟨b1, o1 + k, none⟩ = some (.slice pa pl.length pc) := (hg.out.below.cell (p := ⟨b1, o1 + k, none⟩) hb1).trans hc1
      have HP : Hid (∀ W, Below w.heap.size w W → Calls Try.prog 56 #[.slice pa pl.length pc, .slice ra r.length rc] W fun e w' => e = .returned (.bool (decide (pl = r))) ∧ Dr W w') := fun W hb =>
        vEqualRows_any _ _ _ _ W ((hr1.below hb (Nat.le_refl _)).at hb.size) ((HR.out.below hb (Nat.le_refl _)).at hb.size)
      obtain ⟨c, hc⟩ : ∃ c, decide (pl = r) = c := ⟨_, rfl⟩
      have hz : c = true ↔ pl = r := by rw [← hc]; simp
      rw [hc] at HP
      have HZ := Lib.hid hz
      have k0 : (0 : Int) ≤ k := by omega
      clear hz hc hc1 hr1 hb1
      go_wp2_with fail
      refine (HP.out _ hg.out.below).mono ?_
      rintro e wz ⟨rfl, hgz⟩
      have HG : Hid (Gr w wz) := hg.out.trans hgz.gr
      clear hgz
      by_cases hc : c = false
      · have ht' := Lib.hid (HE1.out (fun e => by have := HZ.out.2 e; rw [hc] at this; simp at this))
        subst hc
        go_wp2_with fail
        go_roundg (n - (k + 1))
        case measure => omega
        case rel => exact ⟨k + 1, by omega, Nat.le_refl _, by go_num, HG, ht'⟩
      · obtain rfl : c = true := by simpa using hc
        have hd := Lib.hid (HE2.out (HZ.out.1 rfl))
        go_wp2_with fail
        go_ret
        rw [hd.out]
        exact ⟨rfl, HG.out⟩
    · have hkd : decide ((k : Int) < n) = false := decide_eq_false (by omega)
      have hkd' : decide (k < n) = false := decide_eq_false hlt
      have hd : Hid (decide (r ∈ xs.map (·.2)) = false) := mem_none xs r (fun j hj => ht.out j hj (by omega))
      go_wp2_with fail
      go_ret
      rw [hd.out]
      exact ⟨rfl, hg.out⟩

end Go.Proofs.Ytkhbephcmcnfjaa
