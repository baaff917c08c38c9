/- Law PredicateCompares. -/
import Derived.Test.YtbddmapbppnfoaaPdBegun
import Derived.Test.YtbddmapbppnfoaaPdRefHolds
import Derived.Test.YtbddmapbppnfoaaCase
namespace Go.Proofs.Ytbddmapbppnfoaa
open Go.RowKit Go.Deep

def cntB (a b : V) (q : Nat) : Nat := ((List.range q).filter fun (j : Nat) => cmpsB ((j : Int) + 1) a b).length
theorem cntB_succ (a b : V) (q : Nat) : cntB a b (q + 1) = cntB a b q + if cmpsB ((q : Int) + 1) a b then 1 else 0 := by
  unfold cntB
  rw [List.range_succ, List.filter_append, List.length_append]
  congr 1
  cases h : cmpsB ((q : Int) + 1) a b <;> simp [h]
theorem cntB_le (a b : V) (q : Nat) : cntB a b q ≤ q := by
  unfold cntB; exact Nat.le_trans (List.length_filter_le _ _) (by simp)
theorem cmpsB_kind {c : Int} {a b : V} (h : cmpsB c a b = true) : a.k = b.k := by
  unfold cmpsB at h; simp at h; exact h.1
theorem cntB_no {a b : V} (h : (b.k == a.k) = false) : cntB a b 6 = 0 := by
  have h' : ∀ c, cmpsB c a b = false := fun c => by
    cases hc : cmpsB c a b with
    | false => rfl
    | true => have := cmpsB_kind hc; rw [this] at h; simp at h
  unfold cntB
  simp [h']
theorem cntB_yes {a b : V} (ha : realV a = true) (hb : realV b = true) (h : (b.k == a.k) = true) : cntB a b 6 = 3 := by
  have hk : a.k = b.k := by have : b.k = a.k := by simpa using h
                            exact this.symm
  have e : ∀ c, cmpsB c a b = testB c (cmpV a b) := fun c => by unfold cmpsB; rw [ha, hb]; simp [hk]
  unfold cntB
  simp only [e]
  generalize cmpV a b = r
  have ht : r < 0 ∨ r = 0 ∨ 0 < r := by omega
  have e1 : ((List.range 6).filter fun (j : Nat) => testB ((j : Int) + 1) r) = [0, 1, 2, 3, 4, 5].filter fun (j : Nat) => testB ((j : Int) + 1) r := rfl
  rw [e1]
  rcases ht with h | h | h
  · have h1 : ¬ r = 0 := by omega
    have h2 : r ≤ 0 := by omega
    have h3 : ¬ 0 < r := by omega
    have h4 : ¬ 0 ≤ r := by omega
    simp [testB, h, h1, h2, h3]
  · subst h
    simp [testB]
  · have h1 : ¬ r = 0 := by omega
    have h2 : ¬ r ≤ 0 := by omega
    have h3 : ¬ r < 0 := by omega
    have h4 : 0 ≤ r := by omega
    simp [testB, h, h1, h3, h4]
theorem rowAt_two {W : World} {b : Nat} {u v : V} {c : Nat} (hb : b < W.heap.size) (h0 : W.cell? ⟨b, 0, none⟩ = some (.int .i64 u.k)) (h1 : W.cell? ⟨b, 1, none⟩ = some (.int .i64 u.n)) (h2 : W.cell? ⟨b, 2, none⟩ = some (.string u.s)) (h3 : W.cell? ⟨b, 3, none⟩ = some (.int .i64 v.k)) (h4 : W.cell? ⟨b, 4, none⟩ = some (.int .i64 v.n)) (h5 : W.cell? ⟨b, 5, none⟩ = some (.string v.s)) : RowAt W (.slice (some ⟨b, 0, none⟩) 2 c) [u, v] :=
  ⟨_, c, rfl, by simp, fun i hi => by
    have : i = 0 ∨ i = 1 := by simp at hi; omega
    rcases this with rfl | rfl
    · exact ⟨b, 0, rfl, hb, h0, h1, h2⟩
    · exact ⟨b, 0, rfl, hb, h3, h4, h5⟩⟩
theorem holds_two (c : Int) (a b : V) : holdsP [a, b] [] (.mk 3 c ⟨1, 0, zV⟩ ⟨1, 1, zV⟩ []) = cmpsB c a b := by
  rw [holds_eq]; rfl

set_option maxRecDepth 100000 in
set_option maxHeartbeats 4000000 in
theorem pcompares_walk (cv : Value) (cn : Nat) (w : World) (hcv : BytesAt w cv cn) : Calls Try.prog 6 #[cv] w fun e w' => e = .returned (.bool true) ∧ Below w.heap.size w w' := by
  have HN := Lib.hid (cNew_any cv cn w hcv)
  obtain ⟨sa, sc, rfl, _⟩ := hcv
  have HB : Hid (∀ W, Calls Try.prog 14 #[] W fun e w' => e = .returned (.bool true) ∧ Below W.heap.size W w') := begun5_any
  go_enter Try.func6, Try.ntmps6
  go_wp2_with fail
  refine HN.out.mono ?_
  rintro e w1 ⟨bc, rfl, hb1, hbc, hok⟩
  have HI := Lib.hid (cInt_any bc w1.heap.size 3 w1 (by omega) (by omega) hok)
  have B1 := Lib.hid hb1
  clear hb1 hok HN
  go_wp2_with fail
  refine HI.out.mono ?_
  rintro e w2 ⟨r, rfl, hr0, hr1, hm2, ho2⟩
  have hr3 : r ≤ 2 := by omega
  have HV := Lib.hid (cValue_any bc w1.heap.size (3 + r) w2 (by omega) ho2)
  have M2 := Lib.hid hm2
  clear HI hm2 ho2 hr1
  go_wp2_with fail
  refine HV.out.mono ?_
  rintro e w3 ⟨an, as0, rfl, hva, _, _, hm3, ho3⟩
  have HA := Lib.hid (cAny_any bc w1.heap.size w3 ho3)
  have M3 := Lib.hid (M2.out.trans hm3)
  clear HV hm3 ho3
  go_wp2_with fail
  refine HA.out.mono ?_
  rintro e w4 ⟨bk, bn, bs0, rfl, hvb, _, _, hm4, ho4⟩
  have M4 : Hid (Below w.heap.size w w4) := B1.out.trans ((M3.out.trans hm4).below hbc B1.out.size)
  clear HA hm4 ho4 M3 B1
  go_wp2_with fail
  generalize hka : 3 + r = ka at *
  generalize hrl : (bk == ka) = rl
  have hka3 : 3 ≤ ka := by omega
  have HRA : Hid (realV ⟨ka, an, as0⟩ = true) := by show realB ka an as0 = true; unfold realB; rw [hva]; simp [hka3]
  have HNO : Hid (rl = false → cntB ⟨ka, an, as0⟩ ⟨bk, bn, bs0⟩ 6 = 0) := fun h => cntB_no (by rw [← h, ← hrl])
  have HYES : Hid (rl = true → cntB ⟨ka, an, as0⟩ ⟨bk, bn, bs0⟩ 6 = 3) := fun h => by
    have hbk : bk = ka := by rw [h] at hrl; simpa using hrl
    exact cntB_yes HRA.out (show realB bk bn bs0 = true by unfold realB; rw [hvb]; simp; omega) (by rw [← h, ← hrl])
  have HKIND : Hid (∀ c, cmpsB c ⟨ka, an, as0⟩ ⟨bk, bn, bs0⟩ = true → rl = true) := fun c h => by
    have := cmpsB_kind h
    simp only at this
    rw [← hrl]; simp [this]
  have HCM : Hid (∀ c W, Calls Try.prog 24 #[.int .i64 c, .agg #[.int .i64 ka, .int .i64 an, .string as0], .agg #[.int .i64 bk, .int .i64 bn, .string bs0]] W fun e w' => e = .returned (.bool (cmpsB c ⟨ka, an, as0⟩ ⟨bk, bn, bs0⟩)) ∧ Below W.heap.size W w') := fun c W => rCompares_any c ⟨ka, an, as0⟩ ⟨bk, bn, bs0⟩ W
  have HHO : Hid (∀ c rv W, RowAt W rv [⟨ka, an, as0⟩, ⟨bk, bn, bs0⟩] → Calls Try.prog 19 #[.agg #[.int .i64 3, .int .i64 c, .int .i64 1, .int .i64 0, .int .i64 0, .int .i64 0, .string ⟨#[]⟩, .int .i64 1, .int .i64 1, .int .i64 0, .int .i64 0, .string ⟨#[]⟩, .slice none 0 0], rv, .slice none 0 0] W fun e w' => e = .returned (.bool (cmpsB c ⟨ka, an, as0⟩ ⟨bk, bn, bs0⟩)) ∧ Below W.heap.size W w') := fun c rv W hr => by
    have h := pHolds_any [⟨ka, an, as0⟩, ⟨bk, bn, bs0⟩] [] 1 (.mk 3 c ⟨1, 0, zV⟩ ⟨1, 1, zV⟩ []) (Nat.le_refl 1) (.agg #[.int .i64 3, .int .i64 c, .int .i64 1, .int .i64 0, .int .i64 0, .int .i64 0, .string ⟨#[]⟩, .int .i64 1, .int .i64 1, .int .i64 0, .int .i64 0, .string ⟨#[]⟩, .slice none 0 0]) rv (.slice none 0 0) W ⟨none, 0, rfl, PdS.nil _ _⟩ hr (rowAt_nil _)
    rw [holds_two] at h
    exact h
  obtain ⟨wb, hwb⟩ : ∃ wb, (w4.alloc (.cells #[.int .i64 ka, .int .i64 an, .string as0] 24)).alloc (.cells #[.int .i64 bk, .int .i64 bn, .string bs0] 24) = wb := ⟨_, rfl⟩
  have MB : Hid (Below w.heap.size w wb) := by rw [← hwb]; exact (M4.out.alloc M4.out.size _).alloc (by have := M4.out.size; simp; omega) _
  have zb : w4.heap.size + 1 < wb.heap.size := by rw [← hwb]; simp
  have HCE : Hid (∀ W, Below wb.heap.size wb W → (W.cell? ⟨w4.heap.size, 0, none⟩ = some (.int .i64 ka) ∧ W.cell? ⟨w4.heap.size, 1, none⟩ = some (.int .i64 an) ∧ W.cell? ⟨w4.heap.size, 2, none⟩ = some (.string as0)) ∧ W.cell? ⟨w4.heap.size + 1, 0, none⟩ = some (.int .i64 bk) ∧ W.cell? ⟨w4.heap.size + 1, 1, none⟩ = some (.int .i64 bn) ∧ W.cell? ⟨w4.heap.size + 1, 2, none⟩ = some (.string bs0)) := fun W hb =>
    ⟨⟨(hb.cell (p := ⟨w4.heap.size, 0, none⟩) (show w4.heap.size < _ by omega)).trans (by subst hwb; go_simp), (hb.cell (p := ⟨w4.heap.size, 1, none⟩) (show w4.heap.size < _ by omega)).trans (by subst hwb; go_simp), (hb.cell (p := ⟨w4.heap.size, 2, none⟩) (show w4.heap.size < _ by omega)).trans (by subst hwb; go_simp)⟩, (hb.cell (p := ⟨w4.heap.size + 1, 0, none⟩) zb).trans (by subst hwb; go_simp), (hb.cell (p := ⟨w4.heap.size + 1, 1, none⟩) zb).trans (by subst hwb; go_simp), (hb.cell (p := ⟨w4.heap.size + 1, 2, none⟩) zb).trans (by subst hwb; go_simp)⟩
  rw [hwb]
  clear hwb M4 hrl hva hvb hka hka3 HRA
  go_loopw [8, 9] (fun n c wr => ∃ q : Nat, q ≤ 6 ∧ c = .int .i64 (q + 1 : Nat) ∧ n = .int .i64 (cntB ⟨ka, an, as0⟩ ⟨bk, bn, bs0⟩ q : Nat) ∧ Hid (Below wb.heap.size wb wr)) (fun _ c _ => 7 - (intOf c).toNat)
  case atStart => exact ⟨0, by omega, rfl, rfl, Below.refl _ _⟩
  case round =>
    obtain ⟨q, hq, rfl, rfl, BR⟩ := hrel
    have zr : w4.heap.size + 1 < wr.heap.size := by have := BR.out.size; omega
    have zr2 : w4.heap.size < wr.heap.size := by omega
    obtain ⟨⟨a0, a1, a2⟩, b0, b1, b2⟩ := HCE.out wr BR.out
    have hcl := cntB_le ⟨ka, an, as0⟩ ⟨bk, bn, bs0⟩ q
    by_cases hlt : q < 6
    · have d6 : decide (((q + 1 : Nat) : Int) ≤ 6) = true := by simp; omega
      have hcc : ((q + 1 : Nat) : Int) = (q : Int) + 1 := by omega
      have HS : Hid (cntB ⟨ka, an, as0⟩ ⟨bk, bn, bs0⟩ (q + 1) = cntB ⟨ka, an, as0⟩ ⟨bk, bn, bs0⟩ q + if cmpsB ((q + 1 : Nat) : Int) ⟨ka, an, as0⟩ ⟨bk, bn, bs0⟩ then 1 else 0) := by show _ = _; rw [hcc]; exact cntB_succ _ _ q
      have HC1 := Lib.hid (HCM.out ((q + 1 : Nat) : Int))
      have HH1 := Lib.hid (HHO.out ((q + 1 : Nat) : Int))
      have HZ : Hid (cmpsB ((q + 1 : Nat) : Int) ⟨ka, an, as0⟩ ⟨bk, bn, bs0⟩ = true → rl = true) := HKIND.out _
      generalize cmpsB ((q + 1 : Nat) : Int) ⟨ka, an, as0⟩ ⟨bk, bn, bs0⟩ = z at *
      generalize hcnt : cntB ⟨ka, an, as0⟩ ⟨bk, bn, bs0⟩ q = cnt at *
      have HQ : Hid (q + 1 < 7) := by show _ < _; omega
      clear hcc hcnt HCM HHO HKIND
      obtain ⟨qq, hqq⟩ : ∃ qq : Int, ((q + 1 : Nat) : Int) = qq := ⟨_, rfl⟩
      have HQQ := Lib.hid hqq
      rw [hqq] at d6 HC1 HH1 ⊢
      have hq0 : 1 ≤ qq := by omega
      have hq6 : qq ≤ 6 := by omega
      clear hqq
      have hrow : ∀ O, RowAt ((wr.alloc O).alloc (.cells #[.int .i64 ka, .int .i64 an, .string as0, .int .i64 bk, .int .i64 bn, .string bs0] 24)) (.slice (some ⟨wr.heap.size + 1, 0, none⟩) 2 2) [⟨ka, an, as0⟩, ⟨bk, bn, bs0⟩] := fun O => rowAt_two (by simp) (by go_simp) (by go_simp) (by go_simp) (by go_simp) (by go_simp) (by go_simp)
      have HROW := Lib.hid hrow
      clear hrow
      cases z with
      | true =>
        obtain rfl := HZ.out rfl
        go_wp2_with fail
        refine (HH1.out _ _ (HROW.out _)).mono ?_
        rintro e w5 ⟨rfl, hb5⟩
        have B5 : Hid (Below wb.heap.size wb w5) := BR.out.trans (Below.mono (Below.trans (B := wr.heap.size) (by (repeat (first | exact Below.refl _ _ | assumption | refine Below.drew ?_ | refine Below.setCell ?_ (by first | omega | (simp only [World.size_alloc]; omega) | (simp; try omega)) _ | refine Below.alloc ?_ (by first | omega | (simp only [World.size_alloc]; omega) | (simp; try omega)) _))) (hb5.mono (by simp only [World.size_alloc]; omega))) BR.out.size)
        have z5 : w4.heap.size + 1 < w5.heap.size := by have := B5.out.size; omega
        have z52 : w4.heap.size < w5.heap.size := by omega
        clear hb5 a0 a1 a2 b0 b1 b2 HROW
        obtain ⟨⟨a0, a1, a2⟩, b0, b1, b2⟩ := HCE.out w5 B5.out
        go_wp2_with fail
        refine (HC1.out _).mono ?_
        rintro e w6 ⟨rfl, hb6⟩
        have B6 : Hid (Below wb.heap.size wb w6) := B5.out.trans (hb6.mono B5.out.size)
        clear hb6 a0 a1 a2 b0 b1 b2
        go_wp2_with fail
        go_roundw
        case rel => exact ⟨q + 1, by omega, by rw [← HQQ.out]; go_num, by rw [HS.out]; go_num, B6.out⟩
        case measure => simp [intOf]; omega
      | false =>
        go_wp2_with fail
        refine (HH1.out _ _ (HROW.out _)).mono ?_
        rintro e w5 ⟨rfl, hb5⟩
        have B5 : Hid (Below wb.heap.size wb w5) := BR.out.trans (Below.mono (Below.trans (B := wr.heap.size) (by (repeat (first | exact Below.refl _ _ | assumption | refine Below.drew ?_ | refine Below.setCell ?_ (by first | omega | (simp only [World.size_alloc]; omega) | (simp; try omega)) _ | refine Below.alloc ?_ (by first | omega | (simp only [World.size_alloc]; omega) | (simp; try omega)) _))) (hb5.mono (by simp only [World.size_alloc]; omega))) BR.out.size)
        have z5 : w4.heap.size + 1 < w5.heap.size := by have := B5.out.size; omega
        have z52 : w4.heap.size < w5.heap.size := by omega
        clear hb5 a0 a1 a2 b0 b1 b2 HROW
        obtain ⟨⟨a0, a1, a2⟩, b0, b1, b2⟩ := HCE.out w5 B5.out
        go_wp2_with fail
        refine (HC1.out _).mono ?_
        rintro e w6 ⟨rfl, hb6⟩
        have B6 : Hid (Below wb.heap.size wb w6) := B5.out.trans (hb6.mono B5.out.size)
        clear hb6 a0 a1 a2 b0 b1 b2
        go_wp2_with fail
        go_roundw
        case rel => exact ⟨q + 1, by omega, by rw [← HQQ.out]; go_num, by rw [HS.out]; go_num, B6.out⟩
        case measure => simp [intOf]; omega
    · obtain rfl : q = 6 := by omega
      clear hcl HCM HHO HKIND a0 a1 a2 b0 b1 b2
      cases rl with
      | true =>
        have e3 := HYES.out rfl
        rw [e3]
        go_wp2_with fail
        refine (HB.out _).mono ?_
        rintro e w5 ⟨rfl, hb5⟩
        have B5 : Hid (Below wb.heap.size wb w5) := BR.out.trans (hb5.mono BR.out.size)
        clear hb5
        go_wp2_with fail
        go_ret
        exact ⟨rfl, MB.out.trans (B5.out.mono MB.out.size)⟩
      | false =>
        have e3 := HNO.out rfl
        rw [e3]
        go_wp2_with fail
        refine (HB.out _).mono ?_
        rintro e w5 ⟨rfl, hb5⟩
        have B5 : Hid (Below wb.heap.size wb w5) := BR.out.trans (hb5.mono BR.out.size)
        clear hb5
        go_wp2_with fail
        go_ret
        exact ⟨rfl, MB.out.trans (B5.out.mono MB.out.size)⟩
end Go.Proofs.Ytbddmapbppnfoaa
