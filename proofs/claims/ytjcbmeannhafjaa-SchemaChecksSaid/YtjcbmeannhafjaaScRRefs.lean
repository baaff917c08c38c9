
/- The reference's references. -/
import Derived.Test.YtjcbmeannhafjaaScRTab

import Derived.Test.YtjcbmeannhafjaaIvLeaf

import Derived.Test.YtjcbmeannhafjaaPdRefValid

import Derived.Test.YtjcbmeannhafjaaScRKinds

namespace Go.Proofs.Ytjcbmeannhafjaa

open Go.RowKit Go.Deep

def validT (ts : List TB) : Prop := ∀ t ∈ ts, 1 ≤ t.key ∧ t.key ≤ t.cs.length
theorem tabsB_valid : ∀ (ts : List TB) (S : List ByteArray), tabsB S ts = true → validT ts
  | [], _, _ => fun t h => by simp at h
  | t :: r, S, h => by
    rw [tabsB] at h
    simp only [Bool.and_eq_true, decide_eq_true_eq] at h
    intro u hu
    rcases List.mem_cons.1 hu with rfl | hu
    · exact ⟨h.2.2.1, h.2.2.2.1⟩
    · exact tabsB_valid r _ h.2.2.2.2 u hu

theorem key_at {t : TB} {q : Nat} (hq : q < t.cs.length) (hk : q < keyN t) : atI (keyK t) q = t.cs[q].k := by
  unfold atI inB
  rw [if_pos (by rw [keyK_len]; simpa using hk)]
  simp only [Int.toNat_natCast]
  unfold keyK kndT
  rw [List.getD_eq_getElem?_getD, List.getElem?_take_of_lt hk, List.getElem?_map, List.getElem?_eq_getElem hq]
  rfl
theorem col_at {cs : List CL} {p : Nat} (hp : p < cs.length) : atI (cs.map CL.k) p = cs[p].k := by
  unfold atI inB
  rw [if_pos (by simpa using hp)]
  simp only [Int.toNat_natCast]
  rw [List.getD_eq_getElem?_getD, List.getElem?_map, List.getElem?_eq_getElem hp]
  rfl

set_option linter.unusedSimpArgs false in
set_option maxRecDepth 100000 in
set_option maxHeartbeats 16000000 in
theorem rReferences_any {P : Nat → Prop} (v : Value) (s : SC) (i : Nat) (hi : i < s.ts.length) (w : World) (h : Sc P w v s) (hval : validT s.ts) : Calls Try.prog 40 #[v, .int .i64 i] w (TabR (refsT s s.ts[i]) w) := by
  obtain ⟨tv, rfl, hs⟩ := h
  obtain ⟨a, c, rfl, hf⟩ := hs.shape
  obtain ⟨ver, ts⟩ := s
  dsimp only at hs hf hi hval ⊢
  obtain ⟨b, off, rfl, -, hb, ca, cc, ra, rc, pa, pc, c0, c1, c2, c3, c4, ht⟩ := tab_get hs hi
  have HTG : Hid (∀ j (hj : j < ts.length), ∃ cb ccj mj, mj = ts[j].cs.length ∧ w.cell? ⟨b, off + j * 5 + 1, none⟩ = some (.slice cb mj ccj) ∧ w.cell? ⟨b, off + j * 5 + 2, none⟩ = some (.int .i64 ts[j].key) ∧ (∀ q (hq : q < ts[j].cs.length), ∃ bb oo, cb = some ⟨bb, oo, none⟩ ∧ bb < w.heap.size ∧ w.cell? ⟨bb, oo + q * 2 + 1, none⟩ = some (.int .i64 ts[j].cs[q].k)) ∧ mj ≤ 17592186044416) := fun j hj => by
    obtain ⟨b', off', e, -, -, caj, ccj, _, _, _, _, _, d1, d2, _, _, htj⟩ := tab_get hs hj
    simp only [Option.some.injEq, Addr.mk.injEq, and_true] at e
    obtain ⟨rfl, rfl⟩ := e
    exact ⟨caj, ccj, _, rfl, d1, d2, fun q hq => by obtain ⟨bb, oo, e, _, h1, _, h3⟩ := col_get htj.cols hq; exact ⟨bb, oo, e, h1, h3⟩, by obtain ⟨_, _, e, hf2⟩ := htj.cols.shape; have := hf2.few; omega⟩
  have HV := Lib.hid hval
  obtain ⟨n, hn⟩ : ∃ n, ts.length = n := ⟨_, rfl⟩
  have HL := Lib.hid hn
  obtain ⟨z, hz⟩ : ∃ z, refsT ⟨ver, ts⟩ ts[i] = z := ⟨_, rfl⟩
  rw [hz]
  unfold refsT at hz
  obtain ⟨cs, hcs⟩ : ∃ cs, ts[i].cs = cs := ⟨_, rfl⟩
  obtain ⟨rs, hrs⟩ : ∃ rs, ts[i].rs = rs := ⟨_, rfl⟩
  rw [hcs, hrs] at hz
  have HCO := Lib.hid ht.cols
  have HRE := Lib.hid ht.refs
  obtain ⟨nm, hnm⟩ : ∃ nm, ts[i].s = nm := ⟨_, rfl⟩
  obtain ⟨key, hkey⟩ : ∃ key, ts[i].key = key := ⟨_, rfl⟩
  obtain ⟨np, hnp⟩ : ∃ np, ts[i].ck.length = np := ⟨_, rfl⟩
  rw [hcs] at HCO
  rw [hrs] at HRE
  obtain ⟨m, hm⟩ : ∃ m, cs.length = m := ⟨_, rfl⟩
  obtain ⟨nr, hnr⟩ : ∃ nr, rs.length = nr := ⟨_, rfl⟩
  have HM := Lib.hid hm
  have HNR := Lib.hid hnr
  rw [hnm] at c0
  rw [hcs, hm] at c1
  rw [hkey] at c2
  rw [hrs, hnr] at c3
  rw [hnp] at c4
  rw [hm] at HCO
  rw [hnr] at HRE
  have hin : i < n := by rw [← hn]; exact hi
  have hin2 : (i : Int) < n := by omega
  have hn44 : n ≤ 17592186044416 := by rw [← hn]; exact hf.few
  have hm44 : m ≤ 17592186044416 := by obtain ⟨_, _, e, hf2⟩ := HCO.out.shape; have := hf2.few; omega
  have hr44 : nr ≤ 17592186044416 := by obtain ⟨_, _, e, hf2⟩ := HRE.out.shape; have := hf2.few; omega
  have HZ : Hid ((rs.drop 0).all (refB ⟨ver, ts⟩ cs) = z) := hz
  rw [hn]
  obtain ⟨wa, hwa⟩ : ∃ wa, (w.alloc (.cells #[.int .i64 ver, .slice (some ⟨b, off, none⟩) n c] 25)).alloc (.cells #[.string nm, .slice ca m cc, .int .i64 key, .slice ra nr rc, .slice pa np pc] 40) = wa := ⟨_, rfl⟩
  have BA : Hid (Below w.heap.size w wa) := by rw [← hwa]; exact ((Below.refl _ _).alloc (Nat.le_refl _) _).alloc (by simp) _
  have hza : wa.heap.size = w.heap.size + 2 := by rw [← hwa]; simp
  have s1 : wa.cell? ⟨w.heap.size, 1, none⟩ = some (.slice (some ⟨b, off, none⟩) n c) := by subst hwa; go_simp
  have t1 : wa.cell? ⟨w.heap.size + 1, 1, none⟩ = some (.slice ca m cc) := by subst hwa; go_simp
  have t3 : wa.cell? ⟨w.heap.size + 1, 3, none⟩ = some (.slice ra nr rc) := by subst hwa; go_simp
  have HS : Hid (∀ W, Below wa.heap.size wa W → W.cell? ⟨w.heap.size, 1, none⟩ = some (.slice (some ⟨b, off, none⟩) n c) ∧ W.cell? ⟨w.heap.size + 1, 1, none⟩ = some (.slice ca m cc)) := fun W hb2 =>
    ⟨(hb2.cell (p := ⟨w.heap.size, 1, none⟩) (show w.heap.size < _ by omega)).trans s1, (hb2.cell (p := ⟨w.heap.size + 1, 1, none⟩) (show w.heap.size + 1 < _ by omega)).trans t1⟩
  have hbw : b < wa.heap.size := by omega
  have hl3 : w.heap.size + 1 < wa.heap.size := by omega
  clear hs hf ht hn hnm hcs hrs hkey hnp hm hnr hz hi hval
  go_enter Try.func40, Try.ntmps40
  go_upto_region 2 with fail
  try rw [hwa]
  have HCN : Hid (∀ j (hj : j < cs.length), ∃ cb co, ca = some ⟨cb, co, none⟩ ∧ cb < w.heap.size ∧ w.cell? ⟨cb, co + j * 2 + 1, none⟩ = some (.int .i64 cs[j].k)) := fun j hj => by
    obtain ⟨cb, co, e, -, h1, h2, h3⟩ := col_get HCO.out hj
    exact ⟨cb, co, e, h1, h3⟩
  clear HCO c0 c1 c2 c3 c4 hwa s1 t1
  go_wp2_with fail
  go_loopw [18] (fun s18 wr => ∃ k : Nat, k ≤ nr ∧ s18 = .int .i64 k ∧ Hid (Below wa.heap.size wa wr) ∧ Hid ((rs.drop k).all (refB ⟨ver, ts⟩ cs) = z)) (fun s18 _ => nr - (intOf s18).toNat)
  case atStart => exact ⟨0, by omega, rfl, Below.refl _ _, HZ⟩
  case round =>
    clear HZ t3
    obtain ⟨w3, rfl⟩ : ∃ x, x = wr := ⟨wr, rfl⟩
    obtain ⟨k, hk, rfl, HX, HZ⟩ := hrel
    have hzr := HX.out.size
    have HB3 : Hid (Below w.heap.size w w3) := BA.out.trans (HX.out.mono (by omega))
    by_cases hlt : k < nr
    · have hlt2 : (k : Int) < nr := by omega
      have hkr : k < rs.length := by rw [HNR.out]; exact hlt
      obtain ⟨rb, ro, rfl, -, hrb, ia, ic, d0, d1, hints⟩ := ref_get HRE.out hkr
      obtain ⟨r, hr⟩ : ∃ r, rs[k] = r := ⟨_, rfl⟩
      rw [hr] at d0 d1 hints
      obtain ⟨L, t⟩ := r
      dsimp only at d0 d1 hints
      obtain ⟨mc, hmc⟩ : ∃ mc, L.length = mc := ⟨_, rfl⟩
      have HMC := Lib.hid hmc
      rw [hmc] at d0 hints
      have q0 : w3.cell? ⟨rb, ro + k * 2, none⟩ = some (.slice ia mc ic) := (HB3.out.cell (p := ⟨rb, ro + k * 2, none⟩) hrb).trans d0
      have q1 : w3.cell? ⟨rb, ro + k * 2 + 1, none⟩ = some (.int .i64 t) := (HB3.out.cell (p := ⟨rb, ro + k * 2 + 1, none⟩) hrb).trans d1
      have hrb3 : rb < w3.heap.size := by have := HB3.out.size; omega
      obtain ⟨zr, hzr2⟩ : ∃ zr, (rs.drop (k + 1)).all (refB ⟨ver, ts⟩ cs) = zr := ⟨_, rfl⟩
      have HZK : Hid ((refB ⟨ver, ts⟩ cs ⟨L, t⟩ && zr) = z) := by show _ = _; rw [← HZ.out, allR_drop _ _ _ hkr, hr, hzr2]
      have HZR := Lib.hid hzr2
      have HIN := Lib.hid hints
      have hmc44 : mc ≤ 17592186044416 := by obtain ⟨_, _, e, hf2⟩ := hints.shape; have := hf2.few; omega
      obtain ⟨wl, hwl⟩ : ∃ wl, w3.alloc (.cells #[.slice ia mc ic, .int .i64 t] 73) = wl := ⟨_, rfl⟩
      obtain ⟨bw, hbw2⟩ : ∃ bw, w3.heap.size = bw := ⟨_, rfl⟩
      have hbl : bw < wl.heap.size := by rw [← hwl, ← hbw2]; simp
      have BL : Hid (Below wa.heap.size wa wl) := by rw [← hwl]; exact HX.out.alloc HX.out.size _
      have l0 : wl.cell? ⟨bw, 0, none⟩ = some (.slice ia mc ic) := by subst hwl; subst hbw2; go_simp
      have l1 : wl.cell? ⟨bw, 1, none⟩ = some (.int .i64 t) := by subst hwl; subst hbw2; go_simp
      have HB4 : Hid (Below w.heap.size w wl) := BA.out.trans (BL.out.mono (by omega))
      clear hr hmc hzr2 hints d0 d1 HZ
      go_upto_region 5 with fail
      try rw [hwl]
      try rw [hbw2]
      clear hwl hbw2 q0 q1 hrb3
      have hcase : t < 0 ∨ (n : Int) ≤ t ∨ ∃ j : Nat, t = j ∧ j < n := by
        by_cases h0 : t < 0
        · exact .inl h0
        · by_cases h1 : (n : Int) ≤ t
          · exact .inr (.inl h1)
          · exact .inr (.inr ⟨t.toNat, by omega, by omega⟩)
      rcases hcase with h0 | h0 | ⟨j, rfl, hjn⟩
      · have hz0 : z = false := by
          rw [← HZK.out]; unfold refB
          rw [show inT ⟨ver, ts⟩ t = false from by unfold inT; simp; have := HL.out; omega]; rfl
        subst hz0
        have d1 : decide (t < 0) = true := by simpa using h0
        have HK : Hid (∀ W, Below wl.heap.size wl W → W.cell? ⟨bw, 0, none⟩ = some (.slice ia mc ic) ∧ W.cell? ⟨bw, 1, none⟩ = some (.int .i64 t) ∧ W.cell? ⟨w.heap.size, 1, none⟩ = some (.slice (some ⟨b, off, none⟩) n c)) := fun W hb2 => ⟨(hb2.cell (p := ⟨bw, 0, none⟩) (show bw < _ by have := hbl; omega)).trans l0, (hb2.cell (p := ⟨bw, 1, none⟩) (show bw < _ by have := hbl; omega)).trans l1, (HS.out W (BL.out.trans (hb2.mono (by have := BL.out.size; omega)))).1⟩
        clear h0 HZK HZR HIN HRE HTG HV HCN
        refine wp_region_held_drew (S := fun W => W.cell? ⟨bw, 0, none⟩ = some (.slice ia mc ic) ∧ W.cell? ⟨bw, 1, none⟩ = some (.int .i64 t) ∧ W.cell? ⟨w.heap.size, 1, none⟩ = some (.slice (some ⟨b, off, none⟩) n c)) (by kernel_rfl) (HK.out _ (Below.refl _ _).drew) (fun hHeld => ?_)
        obtain ⟨wd, hwd⟩ : ∃ wd, wl.drew = wd := ⟨_, rfl⟩
        have BW_wd : Hid (Below wl.heap.size wl wd) := by rw [← hwd]; exact (Below.refl _ _).drew
        rw [hwd] at hHeld ⊢
        clear hwd
        refine wpAnyH_takeD (i := 0) (d := 22) (v := ?_) rfl rfl (by kernel_rfl) (by kernel_rfl) (by kernel_rfl) (fun _ _ _ h => h) (Or.inl ⟨by rfl, ?_⟩) (by assumption) ?_; rotate_left
        · intro W hSw; (try dsimp only at hSw); go_simp; (try with_reducible rfl)
        (try simp only [List.set_cons_zero, List.set_cons_succ])
        refine wpAnyH_takeD (i := 1) (d := 23) (v := ?_) rfl rfl (by kernel_rfl) (by kernel_rfl) (by kernel_rfl) (fun _ _ _ h => h) (Or.inl ⟨by rfl, ?_⟩) (by assumption) ?_; rotate_left
        · intro W hSw; (try dsimp only at hSw); go_simp; (try with_reducible rfl)
        (try simp only [List.set_cons_zero, List.set_cons_succ])
        refine wpAnyH_takeD (i := 2) (d := 24) (v := ?_) rfl rfl (by kernel_rfl) (by kernel_rfl) (by kernel_rfl) (fun _ _ _ h => h) (Or.inl ⟨by rfl, ?_⟩) (by assumption) ?_; rotate_left
        · intro W hSw; (try dsimp only at hSw); go_simp; (try with_reducible rfl)
        (try simp only [List.set_cons_zero, List.set_cons_succ])
        refine wpAnyH_takeD (i := 3) (d := 25) (v := ?_) rfl rfl (by kernel_rfl) (by kernel_rfl) (by kernel_rfl) (fun _ _ _ h => h) (Or.inl ⟨by rfl, ?_⟩) (by assumption) ?_; rotate_left
        · intro W hSw; (try dsimp only at hSw); go_simp; (try with_reducible rfl)
        (try simp only [List.set_cons_zero, List.set_cons_succ])
        refine wpAnyH_skips (by kernel_rfl) (fun _ _ _ _ _ h => h) (by assumption) [(4, 26), (5, 27), (6, 28), (7, 29), (8, 30), (9, 31)] (fuel := 14) (by kernel_rfl) ?_
        simp only [skipPut, skipList]
        (try simp only [List.set_cons_zero, List.set_cons_succ])
        refine wpAnyH_takeD (i := 10) (d := 32) (v := ?_) rfl rfl (by kernel_rfl) (by kernel_rfl) (by kernel_rfl) (fun _ _ _ h => h) (Or.inl ⟨by rfl, ?_⟩) (by assumption) ?_; rotate_left
        · intro W hSw; (try dsimp only at hSw); go_simp; (try with_reducible rfl)
        (try simp only [List.set_cons_zero, List.set_cons_succ])
        refine wpAnyH_takeD (i := 11) (d := 33) (v := ?_) rfl rfl (by kernel_rfl) (by kernel_rfl) (by kernel_rfl) (fun _ _ _ h => h) (Or.inl ⟨by rfl, ?_⟩) (by assumption) ?_; rotate_left
        · intro W hSw; (try dsimp only at hSw); go_simp; (try with_reducible rfl)
        (try simp only [List.set_cons_zero, List.set_cons_succ])
        refine wpAnyH_skips (by kernel_rfl) (fun _ _ _ _ _ h => h) (by assumption) [(12, 34), (13, 35), (14, 36), (15, 37), (16, 38), (17, 39), (18, 40), (19, 41), (20, 42), (21, 43), (22, 44)] (fuel := 1) (by kernel_rfl) ?_
        simp only [skipPut, skipList]
        (try simp only [List.set_cons_zero, List.set_cons_succ])
        refine wpAnyH_takeD (i := 23) (d := 45) (v := ?_) rfl rfl (by kernel_rfl) (by kernel_rfl) (by kernel_rfl) (fun _ _ _ h => h) (Or.inl ⟨by rfl, ?_⟩) (by assumption) ?_; rotate_left
        · intro W hSw; (try dsimp only at hSw); go_simp; (try with_reducible rfl)
        (try simp only [List.set_cons_zero, List.set_cons_succ])
        clear hHeld
        refine wpAnyH_done (by kernel_rfl) ?_ _
        go_wp2_with fail
        go_ret
        exact ⟨rfl, HB4.out.trans (BW_wd.out.mono (by have := HB4.out.size; omega))⟩
      · have hz0 : z = false := by
          rw [← HZK.out]; unfold refB
          rw [show inT ⟨ver, ts⟩ t = false from by unfold inT; simp; have := HL.out; omega]; rfl
        subst hz0
        have d1 : decide (t < 0) = false := by simp; omega
        have d2 : decide ((n : Int) ≤ t) = true := by simpa using h0
        have HK : Hid (∀ W, Below wl.heap.size wl W → W.cell? ⟨bw, 0, none⟩ = some (.slice ia mc ic) ∧ W.cell? ⟨bw, 1, none⟩ = some (.int .i64 t) ∧ W.cell? ⟨w.heap.size, 1, none⟩ = some (.slice (some ⟨b, off, none⟩) n c)) := fun W hb2 => ⟨(hb2.cell (p := ⟨bw, 0, none⟩) (show bw < _ by have := hbl; omega)).trans l0, (hb2.cell (p := ⟨bw, 1, none⟩) (show bw < _ by have := hbl; omega)).trans l1, (HS.out W (BL.out.trans (hb2.mono (by have := BL.out.size; omega)))).1⟩
        clear h0 HZK HZR HIN HRE HTG HV HCN
        refine wp_region_held_drew (S := fun W => W.cell? ⟨bw, 0, none⟩ = some (.slice ia mc ic) ∧ W.cell? ⟨bw, 1, none⟩ = some (.int .i64 t) ∧ W.cell? ⟨w.heap.size, 1, none⟩ = some (.slice (some ⟨b, off, none⟩) n c)) (by kernel_rfl) (HK.out _ (Below.refl _ _).drew) (fun hHeld => ?_)
        obtain ⟨wd, hwd⟩ : ∃ wd, wl.drew = wd := ⟨_, rfl⟩
        have BW_wd : Hid (Below wl.heap.size wl wd) := by rw [← hwd]; exact (Below.refl _ _).drew
        rw [hwd] at hHeld ⊢
        clear hwd
        refine wpAnyH_takeD (i := 0) (d := 22) (v := ?_) rfl rfl (by kernel_rfl) (by kernel_rfl) (by kernel_rfl) (fun _ _ _ h => h) (Or.inl ⟨by rfl, ?_⟩) (by assumption) ?_; rotate_left
        · intro W hSw; (try dsimp only at hSw); go_simp; (try with_reducible rfl)
        (try simp only [List.set_cons_zero, List.set_cons_succ])
        refine wpAnyH_takeD (i := 1) (d := 23) (v := ?_) rfl rfl (by kernel_rfl) (by kernel_rfl) (by kernel_rfl) (fun _ _ _ h => h) (Or.inl ⟨by rfl, ?_⟩) (by assumption) ?_; rotate_left
        · intro W hSw; (try dsimp only at hSw); go_simp; (try with_reducible rfl)
        (try simp only [List.set_cons_zero, List.set_cons_succ])
        refine wpAnyH_takeD (i := 2) (d := 24) (v := ?_) rfl rfl (by kernel_rfl) (by kernel_rfl) (by kernel_rfl) (fun _ _ _ h => h) (Or.inl ⟨by rfl, ?_⟩) (by assumption) ?_; rotate_left
        · intro W hSw; (try dsimp only at hSw); go_simp; (try with_reducible rfl)
        (try simp only [List.set_cons_zero, List.set_cons_succ])
        refine wpAnyH_takeD (i := 3) (d := 25) (v := ?_) rfl rfl (by kernel_rfl) (by kernel_rfl) (by kernel_rfl) (fun _ _ _ h => h) (Or.inl ⟨by rfl, ?_⟩) (by assumption) ?_; rotate_left
        · intro W hSw; (try dsimp only at hSw); go_simp; (try with_reducible rfl)
        (try simp only [List.set_cons_zero, List.set_cons_succ])
        refine wpAnyH_takeD (i := 4) (d := 26) (v := ?_) rfl rfl (by kernel_rfl) (by kernel_rfl) (by kernel_rfl) (fun _ _ _ h => h) (Or.inl ⟨by rfl, ?_⟩) (by assumption) ?_; rotate_left
        · intro W hSw; (try dsimp only at hSw); go_simp; (try with_reducible rfl)
        (try simp only [List.set_cons_zero, List.set_cons_succ])
        refine wpAnyH_takeD (i := 5) (d := 27) (v := ?_) rfl rfl (by kernel_rfl) (by kernel_rfl) (by kernel_rfl) (fun _ _ _ h => h) (Or.inl ⟨by rfl, ?_⟩) (by assumption) ?_; rotate_left
        · intro W hSw; (try dsimp only at hSw); go_simp; (try with_reducible rfl)
        (try simp only [List.set_cons_zero, List.set_cons_succ])
        refine wpAnyH_takeD (i := 6) (d := 28) (v := ?_) rfl rfl (by kernel_rfl) (by kernel_rfl) (by kernel_rfl) (fun _ _ _ h => h) (Or.inl ⟨by rfl, ?_⟩) (by assumption) ?_; rotate_left
        · intro W hSw; (try dsimp only at hSw); go_simp; (try with_reducible rfl)
        (try simp only [List.set_cons_zero, List.set_cons_succ])
        refine wpAnyH_takeD (i := 7) (d := 29) (v := ?_) rfl rfl (by kernel_rfl) (by kernel_rfl) (by kernel_rfl) (fun _ _ _ h => h) (Or.inl ⟨by rfl, ?_⟩) (by assumption) ?_; rotate_left
        · intro W hSw; (try dsimp only at hSw); go_simp; (try with_reducible rfl)
        (try simp only [List.set_cons_zero, List.set_cons_succ])
        refine wpAnyH_takeD (i := 8) (d := 30) (v := ?_) rfl rfl (by kernel_rfl) (by kernel_rfl) (by kernel_rfl) (fun _ _ _ h => h) (Or.inl ⟨by rfl, ?_⟩) (by assumption) ?_; rotate_left
        · intro W hSw; (try dsimp only at hSw); go_simp; (try with_reducible rfl)
        (try simp only [List.set_cons_zero, List.set_cons_succ])
        refine wpAnyH_takeD (i := 9) (d := 31) (v := ?_) rfl rfl (by kernel_rfl) (by kernel_rfl) (by kernel_rfl) (fun _ _ _ h => h) (Or.inl ⟨by rfl, ?_⟩) (by assumption) ?_; rotate_left
        · intro W hSw; (try dsimp only at hSw); go_simp; (try with_reducible rfl)
        (try simp only [List.set_cons_zero, List.set_cons_succ])
        refine wpAnyH_takeD (i := 10) (d := 32) (v := ?_) rfl rfl (by kernel_rfl) (by kernel_rfl) (by kernel_rfl) (fun _ _ _ h => h) (Or.inl ⟨by rfl, ?_⟩) (by assumption) ?_; rotate_left
        · intro W hSw; (try dsimp only at hSw); go_simp; (try with_reducible rfl)
        (try simp only [List.set_cons_zero, List.set_cons_succ])
        refine wpAnyH_takeD (i := 11) (d := 33) (v := ?_) rfl rfl (by kernel_rfl) (by kernel_rfl) (by kernel_rfl) (fun _ _ _ h => h) (Or.inl ⟨by rfl, ?_⟩) (by assumption) ?_; rotate_left
        · intro W hSw; (try dsimp only at hSw); go_simp; (try with_reducible rfl)
        (try simp only [List.set_cons_zero, List.set_cons_succ])
        refine wpAnyH_skips (by kernel_rfl) (fun _ _ _ _ _ h => h) (by assumption) [(12, 34), (13, 35), (14, 36), (15, 37), (16, 38), (17, 39), (18, 40), (19, 41), (20, 42), (21, 43), (22, 44)] (fuel := 1) (by kernel_rfl) ?_
        simp only [skipPut, skipList]
        (try simp only [List.set_cons_zero, List.set_cons_succ])
        refine wpAnyH_takeD (i := 23) (d := 45) (v := ?_) rfl rfl (by kernel_rfl) (by kernel_rfl) (by kernel_rfl) (fun _ _ _ h => h) (Or.inl ⟨by rfl, ?_⟩) (by assumption) ?_; rotate_left
        · intro W hSw; (try dsimp only at hSw); go_simp; (try with_reducible rfl)
        (try simp only [List.set_cons_zero, List.set_cons_succ])
        clear hHeld
        refine wpAnyH_done (by kernel_rfl) ?_ _
        go_wp2_with fail
        go_ret
        exact ⟨rfl, HB4.out.trans (BW_wd.out.mono (by have := HB4.out.size; omega))⟩
      · have hjt : j < ts.length := by rw [HL.out]; exact hjn
        have hjn2 : (j : Int) < n := by omega
        obtain ⟨cj, ccj, mj, hmj, e1, e2, HQ0, hm44j⟩ := HTG.out j hjt
        have HQ := Lib.hid HQ0
        have HMJ := Lib.hid hmj
        have hvj := HV.out _ (List.getElem_mem hjt)
        obtain ⟨kj, hkj⟩ : ∃ kj, ts[j].key = kj := ⟨_, rfl⟩
        have hkn : keyN ts[j] = kj.toNat := by unfold keyN; rw [hkj]; rw [hkj] at hvj; omega
        have HKN := Lib.hid hkn
        rw [hkj] at e2 hvj
        rw [← hmj] at hvj
        have f1 : wl.cell? ⟨b, off + j * 5 + 1, none⟩ = some (.slice cj mj ccj) := (HB4.out.cell (p := ⟨b, off + j * 5 + 1, none⟩) hb).trans e1
        have f2 : wl.cell? ⟨b, off + j * 5 + 2, none⟩ = some (.int .i64 kj) := (HB4.out.cell (p := ⟨b, off + j * 5 + 2, none⟩) hb).trans e2
        have hbl4 : b < wl.heap.size := by have := HB4.out.size; omega
        have HZJ : Hid ((decide (mc = kj.toNat) && (refL cs (keyK ts[j]) 0 L && zr)) = z) := by
          show _ = _
          rw [← HZK.out]; unfold refB
          rw [show inT ⟨ver, ts⟩ ((j : Nat) : Int) = true from by unfold inT; simp; omega]
          dsimp only
          rw [show tbAt ⟨ver, ts⟩ ((j : Nat) : Int) = ts[j] from tbAt_in hjt, HKN.out, HMC.out]
          simp [Bool.and_assoc]
        have d1 : decide ((j : Int) < 0) = false := by simp
        have d2 : decide ((n : Int) ≤ (j : Int)) = false := by simp; omega
        have d3 : decide (n ≤ j) = false := by simp; omega
        have HK : Hid (∀ W, Below wl.heap.size wl W → W.cell? ⟨bw, 0, none⟩ = some (.slice ia mc ic) ∧ W.cell? ⟨bw, 1, none⟩ = some (.int .i64 (j : Int)) ∧ W.cell? ⟨w.heap.size, 1, none⟩ = some (.slice (some ⟨b, off, none⟩) n c) ∧ W.cell? ⟨b, off + j * 5 + 2, none⟩ = some (.int .i64 kj)) := fun W hb2 => ⟨(hb2.cell (p := ⟨bw, 0, none⟩) (show bw < _ by have := hbl; omega)).trans l0, (hb2.cell (p := ⟨bw, 1, none⟩) (show bw < _ by have := hbl; omega)).trans l1, (HS.out W (BL.out.trans (hb2.mono (by have := BL.out.size; omega)))).1, (hb2.cell (p := ⟨b, off + j * 5 + 2, none⟩) hbl4).trans f2⟩
        clear HZK hkj hkn hmj HQ0
        by_cases hmk : (mc : Int) = kj
        · have hkm : kj.toNat = mc := by omega
          have HKM : Hid (keyN ts[j] = mc) := by show _ = _; rw [HKN.out, hkm]
          rw [hkm] at HZJ
          rw [← hmk] at f2 hvj HK e2
          clear hmk hkm HKN
          refine wp_region_held_drew (S := fun W => W.cell? ⟨bw, 0, none⟩ = some (.slice ia mc ic) ∧ W.cell? ⟨bw, 1, none⟩ = some (.int .i64 (j : Int)) ∧ W.cell? ⟨w.heap.size, 1, none⟩ = some (.slice (some ⟨b, off, none⟩) n c) ∧ W.cell? ⟨b, off + j * 5 + 2, none⟩ = some (.int .i64 (mc : Int))) (by kernel_rfl) (HK.out _ (Below.refl _ _).drew) (fun hHeld => ?_)
          obtain ⟨w4, hwd⟩ : ∃ w4, wl.drew = w4 := ⟨_, rfl⟩
          have BW_w4 : Hid (Below wl.heap.size wl w4) := by rw [← hwd]; exact (Below.refl _ _).drew
          rw [hwd] at hHeld ⊢
          clear hwd
          refine wpAnyH_takeD (i := 0) (d := 22) (v := ?_) rfl rfl (by kernel_rfl) (by kernel_rfl) (by kernel_rfl) (fun _ _ _ h => h) (Or.inl ⟨by rfl, ?_⟩) (by assumption) ?_; rotate_left
          · intro W hSw; (try dsimp only at hSw); go_simp; (try with_reducible rfl)
          (try simp only [List.set_cons_zero, List.set_cons_succ])
          refine wpAnyH_takeD (i := 1) (d := 23) (v := ?_) rfl rfl (by kernel_rfl) (by kernel_rfl) (by kernel_rfl) (fun _ _ _ h => h) (Or.inl ⟨by rfl, ?_⟩) (by assumption) ?_; rotate_left
          · intro W hSw; (try dsimp only at hSw); go_simp; (try with_reducible rfl)
          (try simp only [List.set_cons_zero, List.set_cons_succ])
          refine wpAnyH_takeD (i := 2) (d := 24) (v := ?_) rfl rfl (by kernel_rfl) (by kernel_rfl) (by kernel_rfl) (fun _ _ _ h => h) (Or.inl ⟨by rfl, ?_⟩) (by assumption) ?_; rotate_left
          · intro W hSw; (try dsimp only at hSw); go_simp; (try with_reducible rfl)
          (try simp only [List.set_cons_zero, List.set_cons_succ])
          refine wpAnyH_takeD (i := 3) (d := 25) (v := ?_) rfl rfl (by kernel_rfl) (by kernel_rfl) (by kernel_rfl) (fun _ _ _ h => h) (Or.inl ⟨by rfl, ?_⟩) (by assumption) ?_; rotate_left
          · intro W hSw; (try dsimp only at hSw); go_simp; (try with_reducible rfl)
          (try simp only [List.set_cons_zero, List.set_cons_succ])
          refine wpAnyH_takeD (i := 4) (d := 26) (v := ?_) rfl rfl (by kernel_rfl) (by kernel_rfl) (by kernel_rfl) (fun _ _ _ h => h) (Or.inl ⟨by rfl, ?_⟩) (by assumption) ?_; rotate_left
          · intro W hSw; (try dsimp only at hSw); go_simp; (try with_reducible rfl)
          (try simp only [List.set_cons_zero, List.set_cons_succ])
          refine wpAnyH_takeD (i := 5) (d := 27) (v := ?_) rfl rfl (by kernel_rfl) (by kernel_rfl) (by kernel_rfl) (fun _ _ _ h => h) (Or.inl ⟨by rfl, ?_⟩) (by assumption) ?_; rotate_left
          · intro W hSw; (try dsimp only at hSw); go_simp; (try with_reducible rfl)
          (try simp only [List.set_cons_zero, List.set_cons_succ])
          refine wpAnyH_takeD (i := 6) (d := 28) (v := ?_) rfl rfl (by kernel_rfl) (by kernel_rfl) (by kernel_rfl) (fun _ _ _ h => h) (Or.inl ⟨by rfl, ?_⟩) (by assumption) ?_; rotate_left
          · intro W hSw; (try dsimp only at hSw); go_simp; (try with_reducible rfl)
          (try simp only [List.set_cons_zero, List.set_cons_succ])
          refine wpAnyH_takeD (i := 7) (d := 29) (v := ?_) rfl rfl (by kernel_rfl) (by kernel_rfl) (by kernel_rfl) (fun _ _ _ h => h) (Or.inl ⟨by rfl, ?_⟩) (by assumption) ?_; rotate_left
          · intro W hSw; (try dsimp only at hSw); go_simp; (try with_reducible rfl)
          (try simp only [List.set_cons_zero, List.set_cons_succ])
          refine wpAnyH_takeD (i := 8) (d := 30) (v := ?_) rfl rfl (by kernel_rfl) (by kernel_rfl) (by kernel_rfl) (fun _ _ _ h => h) (Or.inl ⟨by rfl, ?_⟩) (by assumption) ?_; rotate_left
          · intro W hSw; (try dsimp only at hSw); go_simp; (try with_reducible rfl)
          (try simp only [List.set_cons_zero, List.set_cons_succ])
          refine wpAnyH_takeD (i := 9) (d := 31) (v := ?_) rfl rfl (by kernel_rfl) (by kernel_rfl) (by kernel_rfl) (fun _ _ _ h => h) (Or.inl ⟨by rfl, ?_⟩) (by assumption) ?_; rotate_left
          · intro W hSw; (try dsimp only at hSw); go_simp; (try with_reducible rfl)
          (try simp only [List.set_cons_zero, List.set_cons_succ])
          refine wpAnyH_takeD (i := 10) (d := 32) (v := ?_) rfl rfl (by kernel_rfl) (by kernel_rfl) (by kernel_rfl) (fun _ _ _ h => h) (Or.inl ⟨by rfl, ?_⟩) (by assumption) ?_; rotate_left
          · intro W hSw; (try dsimp only at hSw); go_simp; (try with_reducible rfl)
          (try simp only [List.set_cons_zero, List.set_cons_succ])
          refine wpAnyH_takeD (i := 11) (d := 33) (v := ?_) rfl rfl (by kernel_rfl) (by kernel_rfl) (by kernel_rfl) (fun _ _ _ h => h) (Or.inl ⟨by rfl, ?_⟩) (by assumption) ?_; rotate_left
          · intro W hSw; (try dsimp only at hSw); go_simp; (try with_reducible rfl)
          (try simp only [List.set_cons_zero, List.set_cons_succ])
          refine wpAnyH_takeD (i := 12) (d := 34) (v := ?_) rfl rfl (by kernel_rfl) (by kernel_rfl) (by kernel_rfl) (fun _ _ _ h => h) (Or.inl ⟨by rfl, ?_⟩) (by assumption) ?_; rotate_left
          · intro W hSw; (try dsimp only at hSw); go_simp; (try with_reducible rfl)
          (try simp only [List.set_cons_zero, List.set_cons_succ])
          refine wpAnyH_takeD (i := 13) (d := 35) (v := ?_) rfl rfl (by kernel_rfl) (by kernel_rfl) (by kernel_rfl) (fun _ _ _ h => h) (Or.inl ⟨by rfl, ?_⟩) (by assumption) ?_; rotate_left
          · intro W hSw; (try dsimp only at hSw); go_simp; (try with_reducible rfl)
          (try simp only [List.set_cons_zero, List.set_cons_succ])
          refine wpAnyH_takeD (i := 14) (d := 36) (v := ?_) rfl rfl (by kernel_rfl) (by kernel_rfl) (by kernel_rfl) (fun _ _ _ h => h) (Or.inl ⟨by rfl, ?_⟩) (by assumption) ?_; rotate_left
          · intro W hSw; (try dsimp only at hSw); go_simp; (try with_reducible rfl)
          (try simp only [List.set_cons_zero, List.set_cons_succ])
          refine wpAnyH_takeD (i := 15) (d := 37) (v := ?_) rfl rfl (by kernel_rfl) (by kernel_rfl) (by kernel_rfl) (fun _ _ _ h => h) (Or.inl ⟨by rfl, ?_⟩) (by assumption) ?_; rotate_left
          · intro W hSw; (try dsimp only at hSw); go_simp; (try with_reducible rfl)
          (try simp only [List.set_cons_zero, List.set_cons_succ])
          refine wpAnyH_takeD (i := 16) (d := 38) (v := ?_) rfl rfl (by kernel_rfl) (by kernel_rfl) (by kernel_rfl) (fun _ _ _ h => h) (Or.inl ⟨by rfl, ?_⟩) (by assumption) ?_; rotate_left
          · intro W hSw; (try dsimp only at hSw); go_simp; (try with_reducible rfl)
          (try simp only [List.set_cons_zero, List.set_cons_succ])
          refine wpAnyH_takeD (i := 17) (d := 39) (v := ?_) rfl rfl (by kernel_rfl) (by kernel_rfl) (by kernel_rfl) (fun _ _ _ h => h) (Or.inl ⟨by rfl, ?_⟩) (by assumption) ?_; rotate_left
          · intro W hSw; (try dsimp only at hSw); go_simp; (try with_reducible rfl)
          (try simp only [List.set_cons_zero, List.set_cons_succ])
          refine wpAnyH_takeD (i := 18) (d := 40) (v := ?_) rfl rfl (by kernel_rfl) (by kernel_rfl) (by kernel_rfl) (fun _ _ _ h => h) (Or.inl ⟨by rfl, ?_⟩) (by assumption) ?_; rotate_left
          · intro W hSw; (try dsimp only at hSw); go_simp; (try with_reducible rfl)
          (try simp only [List.set_cons_zero, List.set_cons_succ])
          refine wpAnyH_takeD (i := 19) (d := 41) (v := ?_) rfl rfl (by kernel_rfl) (by kernel_rfl) (by kernel_rfl) (fun _ _ _ h => h) (Or.inl ⟨by rfl, ?_⟩) (by assumption) ?_; rotate_left
          · intro W hSw; (try dsimp only at hSw); go_simp; (try with_reducible rfl)
          (try simp only [List.set_cons_zero, List.set_cons_succ])
          refine wpAnyH_takeD (i := 20) (d := 42) (v := ?_) rfl rfl (by kernel_rfl) (by kernel_rfl) (by kernel_rfl) (fun _ _ _ h => h) (Or.inl ⟨by rfl, ?_⟩) (by assumption) ?_; rotate_left
          · intro W hSw; (try dsimp only at hSw); go_simp; (try with_reducible rfl)
          (try simp only [List.set_cons_zero, List.set_cons_succ])
          refine wpAnyH_takeD (i := 21) (d := 43) (v := ?_) rfl rfl (by kernel_rfl) (by kernel_rfl) (by kernel_rfl) (fun _ _ _ h => h) (Or.inl ⟨by rfl, ?_⟩) (by assumption) ?_; rotate_left
          · intro W hSw; (try dsimp only at hSw); go_simp; (try with_reducible rfl)
          (try simp only [List.set_cons_zero, List.set_cons_succ])
          refine wpAnyH_takeD (i := 22) (d := 44) (v := ?_) rfl rfl (by kernel_rfl) (by kernel_rfl) (by kernel_rfl) (fun _ _ _ h => h) (Or.inl ⟨by rfl, ?_⟩) (by assumption) ?_; rotate_left
          · intro W hSw; (try dsimp only at hSw); go_simp; (try with_reducible rfl)
          (try simp only [List.set_cons_zero, List.set_cons_succ])
          refine wpAnyH_takeD (i := 23) (d := 45) (v := ?_) rfl rfl (by kernel_rfl) (by kernel_rfl) (by kernel_rfl) (fun _ _ _ h => h) (Or.inl ⟨by rfl, ?_⟩) (by assumption) ?_; rotate_left
          · intro W hSw; (try dsimp only at hSw); go_simp; (try with_reducible rfl)
          (try simp only [List.set_cons_zero, List.set_cons_succ])
          clear hHeld
          refine wpAnyH_done (by kernel_rfl) ?_ _
          have HZ4 : Hid ((refL cs (keyK ts[j]) 0 (L.drop 0) && zr) = z) := by show _ = _; rw [← HZJ.out]; simp
          have B4 : Hid (Below wl.heap.size wl w4) := BW_w4
          have hz4 := B4.out.size
          have l04 := (B4.out.cell (p := ⟨bw, 0, none⟩) hbl).trans l0
          have hbl5 : bw < w4.heap.size := by omega
          clear HZJ d1 d2 d3 f1 f2 e2 HK BW_w4
          go_wp2_with fail
          go_loopw [49] (fun s49 wr => ∃ q : Nat, q ≤ mc ∧ s49 = .int .i64 q ∧ Hid (Below w4.heap.size w4 wr) ∧ Hid ((refL cs (keyK ts[j]) q (L.drop q) && zr) = z)) (fun s49 _ => mc - (intOf s49).toNat)
          case atStart => exact ⟨0, by omega, rfl, Below.refl _ _, HZ4⟩
          case round =>
            clear HZ4 l04
            obtain ⟨w5, rfl⟩ : ∃ x, x = wr := ⟨wr, rfl⟩
            obtain ⟨q, hq, rfl, HY, HZ5⟩ := hrel
            have hz5 := HY.out.size
            have HB5 : Hid (Below w.heap.size w w5) := HB4.out.trans ((B4.out.trans (HY.out.mono (by omega))).mono (by have := HB4.out.size; omega))
            have HB6 : Hid (Below wl.heap.size wl w5) := B4.out.trans (HY.out.mono (by omega))
            by_cases hqm : q < mc
            · have hqm2 : (q : Int) < mc := by omega
              have hqL : q < L.length := by rw [HMC.out]; exact hqm
              obtain ⟨ib, io, rfl, hib, g0⟩ : ∃ ib io, ia = some ⟨ib, io, none⟩ ∧ ib < w.heap.size ∧ w.cell? ⟨ib, io + q, none⟩ = some (.int .i64 L[q]) := by
                obtain ⟨a', c', e, _, hii⟩ := HIN.out
                simp only [Value.slice.injEq] at e
                obtain ⟨rfl, -, -⟩ := e
                obtain ⟨b2, o2, e, -, h1, h2⟩ := hii q hqL
                have h3 : w.cell? ⟨b2, o2 + q * 1, none⟩ = some (.int .i64 L[q]) := h2
                rw [Nat.mul_one] at h3
                exact ⟨b2, o2, e, h1, h3⟩
              have g1 : w5.cell? ⟨ib, io + q, none⟩ = some (.int .i64 L[q]) := (HB5.out.cell (p := ⟨ib, io + q, none⟩) hib).trans g0
              have hib5 : ib < w5.heap.size := by have := HB5.out.size; omega
              have HD := Lib.hid (refL_drop cs (keyK ts[j]) L q hqL)
              obtain ⟨x, hx⟩ : ∃ x, L[q] = x := ⟨_, rfl⟩
              rw [hx] at HD g1
              have hqj : q < ts[j].cs.length := by have := HMJ.out; have := hvj.2; omega
              have hqmj : q < mj := by have := hvj.2; omega
              have hqmj2 : (q : Int) < mj := by omega
              obtain ⟨jb, jo, rfl, hjb, e3⟩ := HQ.out q hqj
              have HAK : Hid (atI (keyK ts[j]) q = ts[j].cs[q].k) := key_at hqj (by rw [HKM.out]; omega)
              obtain ⟨xk, hxk⟩ : ∃ xk, ts[j].cs[q].k = xk := ⟨_, rfl⟩
              rw [hxk] at e3 HAK
              obtain ⟨zq, hzq⟩ : ∃ zq, (refL cs (keyK ts[j]) (q + 1) (L.drop (q + 1)) && zr) = zq := ⟨_, rfl⟩
              have HE : Hid (((inB cs.length x && (atI (cs.map CL.k) x == xk)) && zq) = z) := by
                show _ = _; rw [← HZ5.out, HD.out, HAK.out, ← hzq]; simp [Bool.and_assoc]
              have HZQ := Lib.hid hzq
              have m0 := (HB6.out.cell (p := ⟨bw, 0, none⟩) hbl).trans l0
              have m1 := (HB6.out.cell (p := ⟨bw, 1, none⟩) hbl).trans l1
              clear HD hx hxk hzq HZ5 g0 HAK
              go_upto_region 10 with fail
              have hxc : x < 0 ∨ (m : Int) ≤ x ∨ ∃ p : Nat, x = p ∧ p < m := by
                by_cases h0 : x < 0
                · exact .inl h0
                · by_cases h1 : (m : Int) ≤ x
                  · exact .inr (.inl h1)
                  · exact .inr (.inr ⟨x.toNat, by omega, by omega⟩)
              have HK2 : Hid (∀ W, Below w5.heap.size w5 W → W.cell? ⟨w.heap.size + 1, 1, none⟩ = some (.slice ca m cc) ∧ W.cell? ⟨w.heap.size, 1, none⟩ = some (.slice (some ⟨b, off, none⟩) n c) ∧ W.cell? ⟨bw, 1, none⟩ = some (.int .i64 (j : Int)) ∧ W.cell? ⟨b, off + j * 5 + 1, none⟩ = some (.slice (some ⟨jb, jo, none⟩) mj ccj) ∧ W.cell? ⟨jb, jo + q * 2 + 1, none⟩ = some (.int .i64 xk)) := fun W hb2 => by
                have hbw5 := below_go HB6.out hb2
                have hB : Below w.heap.size w W := HB5.out.trans (hb2.mono (by have := HB5.out.size; omega))
                obtain ⟨h1, h2⟩ := HS.out W (BL.out.trans (hbw5.mono (by have := BL.out.size; omega)))
                exact ⟨h2, h1, (hbw5.cell (p := ⟨bw, 1, none⟩) hbl).trans l1, (hB.cell (p := ⟨b, off + j * 5 + 1, none⟩) hb).trans e1, (hB.cell (p := ⟨jb, jo + q * 2 + 1, none⟩) hjb).trans e3⟩
              rcases hxc with h0 | h0 | ⟨p, rfl, hpm⟩
              · have hz0 : z = false := by
                  rw [← HE.out, show inB cs.length x = false from by unfold inB; simp; have := HM.out; omega]; rfl
                subst hz0
                have d1 : decide (x < 0) = true := by simpa using h0
                clear h0 HE HZQ HIN HRE HTG HV HCN HQ
                refine wp_region_held_drew (S := fun W => W.cell? ⟨w.heap.size + 1, 1, none⟩ = some (.slice ca m cc) ∧ W.cell? ⟨w.heap.size, 1, none⟩ = some (.slice (some ⟨b, off, none⟩) n c) ∧ W.cell? ⟨bw, 1, none⟩ = some (.int .i64 (j : Int)) ∧ W.cell? ⟨b, off + j * 5 + 1, none⟩ = some (.slice (some ⟨jb, jo, none⟩) mj ccj) ∧ W.cell? ⟨jb, jo + q * 2 + 1, none⟩ = some (.int .i64 xk)) (by kernel_rfl) (HK2.out _ (Below.refl _ _).drew) (fun hHeld => ?_)
                obtain ⟨wd, hwd⟩ : ∃ wd, w5.drew = wd := ⟨_, rfl⟩
                have BW_wd : Hid (Below w5.heap.size w5 wd) := by rw [← hwd]; exact (Below.refl _ _).drew
                rw [hwd] at hHeld ⊢
                clear hwd
                refine wpAnyH_takeD (i := 0) (d := 54) (v := ?_) rfl rfl (by kernel_rfl) (by kernel_rfl) (by kernel_rfl) (fun _ _ _ h => h) (Or.inl ⟨by rfl, ?_⟩) (by assumption) ?_; rotate_left
                · intro W hSw; (try dsimp only at hSw); go_simp; (try with_reducible rfl)
                (try simp only [List.set_cons_zero, List.set_cons_succ])
                refine wpAnyH_takeD (i := 1) (d := 55) (v := ?_) rfl rfl (by kernel_rfl) (by kernel_rfl) (by kernel_rfl) (fun _ _ _ h => h) (Or.inl ⟨by rfl, ?_⟩) (by assumption) ?_; rotate_left
                · intro W hSw; (try dsimp only at hSw); go_simp; (try with_reducible rfl)
                (try simp only [List.set_cons_zero, List.set_cons_succ])
                refine wpAnyH_takeD (i := 2) (d := 56) (v := ?_) rfl rfl (by kernel_rfl) (by kernel_rfl) (by kernel_rfl) (fun _ _ _ h => h) (Or.inl ⟨by rfl, ?_⟩) (by assumption) ?_; rotate_left
                · intro W hSw; (try dsimp only at hSw); go_simp; (try with_reducible rfl)
                (try simp only [List.set_cons_zero, List.set_cons_succ])
                refine wpAnyH_skips (by kernel_rfl) (fun _ _ _ _ _ h => h) (by assumption) [(3, 57), (4, 58), (5, 59), (6, 60), (7, 61)] (fuel := 21) (by kernel_rfl) ?_
                simp only [skipPut, skipList]
                (try simp only [List.set_cons_zero, List.set_cons_succ])
                refine wpAnyH_takeD (i := 8) (d := 62) (v := ?_) rfl rfl (by kernel_rfl) (by kernel_rfl) (by kernel_rfl) (fun _ _ _ h => h) (Or.inl ⟨by rfl, ?_⟩) (by assumption) ?_; rotate_left
                · intro W hSw; (try dsimp only at hSw); go_simp; (try with_reducible rfl)
                (try simp only [List.set_cons_zero, List.set_cons_succ])
                refine wpAnyH_takeD (i := 9) (d := 63) (v := ?_) rfl rfl (by kernel_rfl) (by kernel_rfl) (by kernel_rfl) (fun _ _ _ h => h) (Or.inl ⟨by rfl, ?_⟩) (by assumption) ?_; rotate_left
                · intro W hSw; (try dsimp only at hSw); go_simp; (try with_reducible rfl)
                (try simp only [List.set_cons_zero, List.set_cons_succ])
                refine wpAnyH_skips (by kernel_rfl) (fun _ _ _ _ _ h => h) (by assumption) [(10, 64), (11, 65), (12, 66), (13, 67), (14, 68), (15, 69), (16, 70), (17, 71), (18, 72), (19, 73), (20, 74), (21, 75), (22, 76), (23, 77), (24, 78), (25, 79), (26, 80), (27, 81)] (fuel := 1) (by kernel_rfl) ?_
                simp only [skipPut, skipList]
                (try simp only [List.set_cons_zero, List.set_cons_succ])
                refine wpAnyH_takeD (i := 28) (d := 82) (v := ?_) rfl rfl (by kernel_rfl) (by kernel_rfl) (by kernel_rfl) (fun _ _ _ h => h) (Or.inl ⟨by rfl, ?_⟩) (by assumption) ?_; rotate_left
                · intro W hSw; (try dsimp only at hSw); go_simp; (try with_reducible rfl)
                (try simp only [List.set_cons_zero, List.set_cons_succ])
                clear hHeld
                refine wpAnyH_done (by kernel_rfl) ?_ _
                go_wp2_with fail
                go_ret
                exact ⟨rfl, HB5.out.trans (BW_wd.out.mono (by have := HB5.out.size; omega))⟩
              · have hz0 : z = false := by
                  rw [← HE.out, show inB cs.length x = false from by unfold inB; simp; have := HM.out; omega]; rfl
                subst hz0
                have d1 : decide (x < 0) = false := by simp; omega
                have d2 : decide ((m : Int) ≤ x) = true := by simpa using h0
                clear h0 HE HZQ HIN HRE HTG HV HCN HQ
                refine wp_region_held_drew (S := fun W => W.cell? ⟨w.heap.size + 1, 1, none⟩ = some (.slice ca m cc) ∧ W.cell? ⟨w.heap.size, 1, none⟩ = some (.slice (some ⟨b, off, none⟩) n c) ∧ W.cell? ⟨bw, 1, none⟩ = some (.int .i64 (j : Int)) ∧ W.cell? ⟨b, off + j * 5 + 1, none⟩ = some (.slice (some ⟨jb, jo, none⟩) mj ccj) ∧ W.cell? ⟨jb, jo + q * 2 + 1, none⟩ = some (.int .i64 xk)) (by kernel_rfl) (HK2.out _ (Below.refl _ _).drew) (fun hHeld => ?_)
                obtain ⟨wd, hwd⟩ : ∃ wd, w5.drew = wd := ⟨_, rfl⟩
                have BW_wd : Hid (Below w5.heap.size w5 wd) := by rw [← hwd]; exact (Below.refl _ _).drew
                rw [hwd] at hHeld ⊢
                clear hwd
                refine wpAnyH_takeD (i := 0) (d := 54) (v := ?_) rfl rfl (by kernel_rfl) (by kernel_rfl) (by kernel_rfl) (fun _ _ _ h => h) (Or.inl ⟨by rfl, ?_⟩) (by assumption) ?_; rotate_left
                · intro W hSw; (try dsimp only at hSw); go_simp; (try with_reducible rfl)
                (try simp only [List.set_cons_zero, List.set_cons_succ])
                refine wpAnyH_takeD (i := 1) (d := 55) (v := ?_) rfl rfl (by kernel_rfl) (by kernel_rfl) (by kernel_rfl) (fun _ _ _ h => h) (Or.inl ⟨by rfl, ?_⟩) (by assumption) ?_; rotate_left
                · intro W hSw; (try dsimp only at hSw); go_simp; (try with_reducible rfl)
                (try simp only [List.set_cons_zero, List.set_cons_succ])
                refine wpAnyH_takeD (i := 2) (d := 56) (v := ?_) rfl rfl (by kernel_rfl) (by kernel_rfl) (by kernel_rfl) (fun _ _ _ h => h) (Or.inl ⟨by rfl, ?_⟩) (by assumption) ?_; rotate_left
                · intro W hSw; (try dsimp only at hSw); go_simp; (try with_reducible rfl)
                (try simp only [List.set_cons_zero, List.set_cons_succ])
                refine wpAnyH_takeD (i := 3) (d := 57) (v := ?_) rfl rfl (by kernel_rfl) (by kernel_rfl) (by kernel_rfl) (fun _ _ _ h => h) (Or.inl ⟨by rfl, ?_⟩) (by assumption) ?_; rotate_left
                · intro W hSw; (try dsimp only at hSw); go_simp; (try with_reducible rfl)
                (try simp only [List.set_cons_zero, List.set_cons_succ])
                refine wpAnyH_takeD (i := 4) (d := 58) (v := ?_) rfl rfl (by kernel_rfl) (by kernel_rfl) (by kernel_rfl) (fun _ _ _ h => h) (Or.inl ⟨by rfl, ?_⟩) (by assumption) ?_; rotate_left
                · intro W hSw; (try dsimp only at hSw); go_simp; (try with_reducible rfl)
                (try simp only [List.set_cons_zero, List.set_cons_succ])
                refine wpAnyH_takeD (i := 5) (d := 59) (v := ?_) rfl rfl (by kernel_rfl) (by kernel_rfl) (by kernel_rfl) (fun _ _ _ h => h) (Or.inl ⟨by rfl, ?_⟩) (by assumption) ?_; rotate_left
                · intro W hSw; (try dsimp only at hSw); go_simp; (try with_reducible rfl)
                (try simp only [List.set_cons_zero, List.set_cons_succ])
                refine wpAnyH_takeD (i := 6) (d := 60) (v := ?_) rfl rfl (by kernel_rfl) (by kernel_rfl) (by kernel_rfl) (fun _ _ _ h => h) (Or.inl ⟨by rfl, ?_⟩) (by assumption) ?_; rotate_left
                · intro W hSw; (try dsimp only at hSw); go_simp; (try with_reducible rfl)
                (try simp only [List.set_cons_zero, List.set_cons_succ])
                refine wpAnyH_takeD (i := 7) (d := 61) (v := ?_) rfl rfl (by kernel_rfl) (by kernel_rfl) (by kernel_rfl) (fun _ _ _ h => h) (Or.inl ⟨by rfl, ?_⟩) (by assumption) ?_; rotate_left
                · intro W hSw; (try dsimp only at hSw); go_simp; (try with_reducible rfl)
                (try simp only [List.set_cons_zero, List.set_cons_succ])
                refine wpAnyH_takeD (i := 8) (d := 62) (v := ?_) rfl rfl (by kernel_rfl) (by kernel_rfl) (by kernel_rfl) (fun _ _ _ h => h) (Or.inl ⟨by rfl, ?_⟩) (by assumption) ?_; rotate_left
                · intro W hSw; (try dsimp only at hSw); go_simp; (try with_reducible rfl)
                (try simp only [List.set_cons_zero, List.set_cons_succ])
                refine wpAnyH_takeD (i := 9) (d := 63) (v := ?_) rfl rfl (by kernel_rfl) (by kernel_rfl) (by kernel_rfl) (fun _ _ _ h => h) (Or.inl ⟨by rfl, ?_⟩) (by assumption) ?_; rotate_left
                · intro W hSw; (try dsimp only at hSw); go_simp; (try with_reducible rfl)
                (try simp only [List.set_cons_zero, List.set_cons_succ])
                refine wpAnyH_skips (by kernel_rfl) (fun _ _ _ _ _ h => h) (by assumption) [(10, 64), (11, 65), (12, 66), (13, 67), (14, 68), (15, 69), (16, 70), (17, 71), (18, 72), (19, 73), (20, 74), (21, 75), (22, 76), (23, 77), (24, 78), (25, 79), (26, 80), (27, 81)] (fuel := 1) (by kernel_rfl) ?_
                simp only [skipPut, skipList]
                (try simp only [List.set_cons_zero, List.set_cons_succ])
                refine wpAnyH_takeD (i := 28) (d := 82) (v := ?_) rfl rfl (by kernel_rfl) (by kernel_rfl) (by kernel_rfl) (fun _ _ _ h => h) (Or.inl ⟨by rfl, ?_⟩) (by assumption) ?_; rotate_left
                · intro W hSw; (try dsimp only at hSw); go_simp; (try with_reducible rfl)
                (try simp only [List.set_cons_zero, List.set_cons_succ])
                clear hHeld
                refine wpAnyH_done (by kernel_rfl) ?_ _
                go_wp2_with fail
                go_ret
                exact ⟨rfl, HB5.out.trans (BW_wd.out.mono (by have := HB5.out.size; omega))⟩
              · have hpc : p < cs.length := by rw [HM.out]; exact hpm
                have hpm2 : (p : Int) < m := by omega
                obtain ⟨pb, po, rfl, hpb, e4⟩ := HCN.out p hpc
                obtain ⟨xp, hxp⟩ : ∃ xp, cs[p].k = xp := ⟨_, rfl⟩
                rw [hxp] at e4
                have HEP : Hid (((xp == xk) && zq) = z) := by
                  show _ = _
                  rw [← HE.out, show inB cs.length ((p : Nat) : Int) = true from by unfold inB; simp; omega, col_at hpc, hxp]; rfl
                have d1 : decide ((p : Int) < 0) = false := by simp
                have d2 : decide ((m : Int) ≤ (p : Int)) = false := by simp; omega
                have d3 : decide (m ≤ p) = false := by simp; omega
                have HK3 : Hid (∀ W, Below w5.heap.size w5 W → W.cell? ⟨w.heap.size + 1, 1, none⟩ = some (.slice (some ⟨pb, po, none⟩) m cc) ∧ W.cell? ⟨w.heap.size, 1, none⟩ = some (.slice (some ⟨b, off, none⟩) n c) ∧ W.cell? ⟨bw, 1, none⟩ = some (.int .i64 (j : Int)) ∧ W.cell? ⟨b, off + j * 5 + 1, none⟩ = some (.slice (some ⟨jb, jo, none⟩) mj ccj) ∧ W.cell? ⟨jb, jo + q * 2 + 1, none⟩ = some (.int .i64 xk) ∧ W.cell? ⟨pb, po + p * 2 + 1, none⟩ = some (.int .i64 xp)) := fun W hb2 => by
                  obtain ⟨h1, h2, h3, h4, h5⟩ := HK2.out W hb2
                  exact ⟨h1, h2, h3, h4, h5, ((HB5.out.trans (hb2.mono (by have := HB5.out.size; omega))).cell (p := ⟨pb, po + p * 2 + 1, none⟩) hpb).trans e4⟩
                clear HE hxp e4 HK2
                have hxe : xp = xk ∨ (xp == xk) = false := by
                  by_cases h : xp = xk
                  · exact .inl h
                  · exact .inr (by simpa using h)
                rcases hxe with rfl | hne
                · have HZ6 : Hid (zq = z) := by show _ = _; rw [← HEP.out]; simp
                  clear HEP
                  refine wp_region_held_drew (S := fun W => W.cell? ⟨w.heap.size + 1, 1, none⟩ = some (.slice (some ⟨pb, po, none⟩) m cc) ∧ W.cell? ⟨w.heap.size, 1, none⟩ = some (.slice (some ⟨b, off, none⟩) n c) ∧ W.cell? ⟨bw, 1, none⟩ = some (.int .i64 (j : Int)) ∧ W.cell? ⟨b, off + j * 5 + 1, none⟩ = some (.slice (some ⟨jb, jo, none⟩) mj ccj) ∧ W.cell? ⟨jb, jo + q * 2 + 1, none⟩ = some (.int .i64 xp) ∧ W.cell? ⟨pb, po + p * 2 + 1, none⟩ = some (.int .i64 xp)) (by kernel_rfl) (HK3.out _ (Below.refl _ _).drew) (fun hHeld => ?_)
                  obtain ⟨wd, hwd⟩ : ∃ wd, w5.drew = wd := ⟨_, rfl⟩
                  have BW_wd : Hid (Below w5.heap.size w5 wd) := by rw [← hwd]; exact (Below.refl _ _).drew
                  rw [hwd] at hHeld ⊢
                  clear hwd
                  refine wpAnyH_takeD (i := 0) (d := 54) (v := ?_) rfl rfl (by kernel_rfl) (by kernel_rfl) (by kernel_rfl) (fun _ _ _ h => h) (Or.inl ⟨by rfl, ?_⟩) (by assumption) ?_; rotate_left
                  · intro W hSw; (try dsimp only at hSw); go_simp; (try with_reducible rfl)
                  (try simp only [List.set_cons_zero, List.set_cons_succ])
                  refine wpAnyH_takeD (i := 1) (d := 55) (v := ?_) rfl rfl (by kernel_rfl) (by kernel_rfl) (by kernel_rfl) (fun _ _ _ h => h) (Or.inl ⟨by rfl, ?_⟩) (by assumption) ?_; rotate_left
                  · intro W hSw; (try dsimp only at hSw); go_simp; (try with_reducible rfl)
                  (try simp only [List.set_cons_zero, List.set_cons_succ])
                  refine wpAnyH_takeD (i := 2) (d := 56) (v := ?_) rfl rfl (by kernel_rfl) (by kernel_rfl) (by kernel_rfl) (fun _ _ _ h => h) (Or.inl ⟨by rfl, ?_⟩) (by assumption) ?_; rotate_left
                  · intro W hSw; (try dsimp only at hSw); go_simp; (try with_reducible rfl)
                  (try simp only [List.set_cons_zero, List.set_cons_succ])
                  refine wpAnyH_takeD (i := 3) (d := 57) (v := ?_) rfl rfl (by kernel_rfl) (by kernel_rfl) (by kernel_rfl) (fun _ _ _ h => h) (Or.inl ⟨by rfl, ?_⟩) (by assumption) ?_; rotate_left
                  · intro W hSw; (try dsimp only at hSw); go_simp; (try with_reducible rfl)
                  (try simp only [List.set_cons_zero, List.set_cons_succ])
                  refine wpAnyH_takeD (i := 4) (d := 58) (v := ?_) rfl rfl (by kernel_rfl) (by kernel_rfl) (by kernel_rfl) (fun _ _ _ h => h) (Or.inl ⟨by rfl, ?_⟩) (by assumption) ?_; rotate_left
                  · intro W hSw; (try dsimp only at hSw); go_simp; (try with_reducible rfl)
                  (try simp only [List.set_cons_zero, List.set_cons_succ])
                  refine wpAnyH_takeD (i := 5) (d := 59) (v := ?_) rfl rfl (by kernel_rfl) (by kernel_rfl) (by kernel_rfl) (fun _ _ _ h => h) (Or.inl ⟨by rfl, ?_⟩) (by assumption) ?_; rotate_left
                  · intro W hSw; (try dsimp only at hSw); go_simp; (try with_reducible rfl)
                  (try simp only [List.set_cons_zero, List.set_cons_succ])
                  refine wpAnyH_takeD (i := 6) (d := 60) (v := ?_) rfl rfl (by kernel_rfl) (by kernel_rfl) (by kernel_rfl) (fun _ _ _ h => h) (Or.inl ⟨by rfl, ?_⟩) (by assumption) ?_; rotate_left
                  · intro W hSw; (try dsimp only at hSw); go_simp; (try with_reducible rfl)
                  (try simp only [List.set_cons_zero, List.set_cons_succ])
                  refine wpAnyH_takeD (i := 7) (d := 61) (v := ?_) rfl rfl (by kernel_rfl) (by kernel_rfl) (by kernel_rfl) (fun _ _ _ h => h) (Or.inl ⟨by rfl, ?_⟩) (by assumption) ?_; rotate_left
                  · intro W hSw; (try dsimp only at hSw); go_simp; (try with_reducible rfl)
                  (try simp only [List.set_cons_zero, List.set_cons_succ])
                  refine wpAnyH_takeD (i := 8) (d := 62) (v := ?_) rfl rfl (by kernel_rfl) (by kernel_rfl) (by kernel_rfl) (fun _ _ _ h => h) (Or.inl ⟨by rfl, ?_⟩) (by assumption) ?_; rotate_left
                  · intro W hSw; (try dsimp only at hSw); go_simp; (try with_reducible rfl)
                  (try simp only [List.set_cons_zero, List.set_cons_succ])
                  refine wpAnyH_takeD (i := 9) (d := 63) (v := ?_) rfl rfl (by kernel_rfl) (by kernel_rfl) (by kernel_rfl) (fun _ _ _ h => h) (Or.inl ⟨by rfl, ?_⟩) (by assumption) ?_; rotate_left
                  · intro W hSw; (try dsimp only at hSw); go_simp; (try with_reducible rfl)
                  (try simp only [List.set_cons_zero, List.set_cons_succ])
                  refine wpAnyH_takeD (i := 10) (d := 64) (v := ?_) rfl rfl (by kernel_rfl) (by kernel_rfl) (by kernel_rfl) (fun _ _ _ h => h) (Or.inl ⟨by rfl, ?_⟩) (by assumption) ?_; rotate_left
                  · intro W hSw; (try dsimp only at hSw); go_simp; (try with_reducible rfl)
                  (try simp only [List.set_cons_zero, List.set_cons_succ])
                  refine wpAnyH_takeD (i := 11) (d := 65) (v := ?_) rfl rfl (by kernel_rfl) (by kernel_rfl) (by kernel_rfl) (fun _ _ _ h => h) (Or.inl ⟨by rfl, ?_⟩) (by assumption) ?_; rotate_left
                  · intro W hSw; (try dsimp only at hSw); go_simp; (try with_reducible rfl)
                  (try simp only [List.set_cons_zero, List.set_cons_succ])
                  refine wpAnyH_takeD (i := 12) (d := 66) (v := ?_) rfl rfl (by kernel_rfl) (by kernel_rfl) (by kernel_rfl) (fun _ _ _ h => h) (Or.inl ⟨by rfl, ?_⟩) (by assumption) ?_; rotate_left
                  · intro W hSw; (try dsimp only at hSw); go_simp; (try with_reducible rfl)
                  (try simp only [List.set_cons_zero, List.set_cons_succ])
                  refine wpAnyH_takeD (i := 13) (d := 67) (v := ?_) rfl rfl (by kernel_rfl) (by kernel_rfl) (by kernel_rfl) (fun _ _ _ h => h) (Or.inl ⟨by rfl, ?_⟩) (by assumption) ?_; rotate_left
                  · intro W hSw; (try dsimp only at hSw); go_simp; (try with_reducible rfl)
                  (try simp only [List.set_cons_zero, List.set_cons_succ])
                  refine wpAnyH_takeD (i := 14) (d := 68) (v := ?_) rfl rfl (by kernel_rfl) (by kernel_rfl) (by kernel_rfl) (fun _ _ _ h => h) (Or.inl ⟨by rfl, ?_⟩) (by assumption) ?_; rotate_left
                  · intro W hSw; (try dsimp only at hSw); go_simp; (try with_reducible rfl)
                  (try simp only [List.set_cons_zero, List.set_cons_succ])
                  refine wpAnyH_takeD (i := 15) (d := 69) (v := ?_) rfl rfl (by kernel_rfl) (by kernel_rfl) (by kernel_rfl) (fun _ _ _ h => h) (Or.inl ⟨by rfl, ?_⟩) (by assumption) ?_; rotate_left
                  · intro W hSw; (try dsimp only at hSw); go_simp; (try with_reducible rfl)
                  (try simp only [List.set_cons_zero, List.set_cons_succ])
                  refine wpAnyH_takeD (i := 16) (d := 70) (v := ?_) rfl rfl (by kernel_rfl) (by kernel_rfl) (by kernel_rfl) (fun _ _ _ h => h) (Or.inl ⟨by rfl, ?_⟩) (by assumption) ?_; rotate_left
                  · intro W hSw; (try dsimp only at hSw); go_simp; (try with_reducible rfl)
                  (try simp only [List.set_cons_zero, List.set_cons_succ])
                  refine wpAnyH_takeD (i := 17) (d := 71) (v := ?_) rfl rfl (by kernel_rfl) (by kernel_rfl) (by kernel_rfl) (fun _ _ _ h => h) (Or.inl ⟨by rfl, ?_⟩) (by assumption) ?_; rotate_left
                  · intro W hSw; (try dsimp only at hSw); go_simp; (try with_reducible rfl)
                  (try simp only [List.set_cons_zero, List.set_cons_succ])
                  refine wpAnyH_takeD (i := 18) (d := 72) (v := ?_) rfl rfl (by kernel_rfl) (by kernel_rfl) (by kernel_rfl) (fun _ _ _ h => h) (Or.inl ⟨by rfl, ?_⟩) (by assumption) ?_; rotate_left
                  · intro W hSw; (try dsimp only at hSw); go_simp; (try with_reducible rfl)
                  (try simp only [List.set_cons_zero, List.set_cons_succ])
                  refine wpAnyH_takeD (i := 19) (d := 73) (v := ?_) rfl rfl (by kernel_rfl) (by kernel_rfl) (by kernel_rfl) (fun _ _ _ h => h) (Or.inl ⟨by rfl, ?_⟩) (by assumption) ?_; rotate_left
                  · intro W hSw; (try dsimp only at hSw); go_simp; (try with_reducible rfl)
                  (try simp only [List.set_cons_zero, List.set_cons_succ])
                  refine wpAnyH_takeD (i := 20) (d := 74) (v := ?_) rfl rfl (by kernel_rfl) (by kernel_rfl) (by kernel_rfl) (fun _ _ _ h => h) (Or.inl ⟨by rfl, ?_⟩) (by assumption) ?_; rotate_left
                  · intro W hSw; (try dsimp only at hSw); go_simp; (try with_reducible rfl)
                  (try simp only [List.set_cons_zero, List.set_cons_succ])
                  refine wpAnyH_takeD (i := 21) (d := 75) (v := ?_) rfl rfl (by kernel_rfl) (by kernel_rfl) (by kernel_rfl) (fun _ _ _ h => h) (Or.inl ⟨by rfl, ?_⟩) (by assumption) ?_; rotate_left
                  · intro W hSw; (try dsimp only at hSw); go_simp; (try with_reducible rfl)
                  (try simp only [List.set_cons_zero, List.set_cons_succ])
                  refine wpAnyH_takeD (i := 22) (d := 76) (v := ?_) rfl rfl (by kernel_rfl) (by kernel_rfl) (by kernel_rfl) (fun _ _ _ h => h) (Or.inl ⟨by rfl, ?_⟩) (by assumption) ?_; rotate_left
                  · intro W hSw; (try dsimp only at hSw); go_simp; (try with_reducible rfl)
                  (try simp only [List.set_cons_zero, List.set_cons_succ])
                  refine wpAnyH_takeD (i := 23) (d := 77) (v := ?_) rfl rfl (by kernel_rfl) (by kernel_rfl) (by kernel_rfl) (fun _ _ _ h => h) (Or.inl ⟨by rfl, ?_⟩) (by assumption) ?_; rotate_left
                  · intro W hSw; (try dsimp only at hSw); go_simp; (try with_reducible rfl)
                  (try simp only [List.set_cons_zero, List.set_cons_succ])
                  refine wpAnyH_takeD (i := 24) (d := 78) (v := ?_) rfl rfl (by kernel_rfl) (by kernel_rfl) (by kernel_rfl) (fun _ _ _ h => h) (Or.inl ⟨by rfl, ?_⟩) (by assumption) ?_; rotate_left
                  · intro W hSw; (try dsimp only at hSw); go_simp; (try with_reducible rfl)
                  (try simp only [List.set_cons_zero, List.set_cons_succ])
                  refine wpAnyH_takeD (i := 25) (d := 79) (v := ?_) rfl rfl (by kernel_rfl) (by kernel_rfl) (by kernel_rfl) (fun _ _ _ h => h) (Or.inl ⟨by rfl, ?_⟩) (by assumption) ?_; rotate_left
                  · intro W hSw; (try dsimp only at hSw); go_simp; (try with_reducible rfl)
                  (try simp only [List.set_cons_zero, List.set_cons_succ])
                  refine wpAnyH_takeD (i := 26) (d := 80) (v := ?_) rfl rfl (by kernel_rfl) (by kernel_rfl) (by kernel_rfl) (fun _ _ _ h => h) (Or.inl ⟨by rfl, ?_⟩) (by assumption) ?_; rotate_left
                  · intro W hSw; (try dsimp only at hSw); go_simp; (try with_reducible rfl)
                  (try simp only [List.set_cons_zero, List.set_cons_succ])
                  refine wpAnyH_takeD (i := 27) (d := 81) (v := ?_) rfl rfl (by kernel_rfl) (by kernel_rfl) (by kernel_rfl) (fun _ _ _ h => h) (Or.inl ⟨by rfl, ?_⟩) (by assumption) ?_; rotate_left
                  · intro W hSw; (try dsimp only at hSw); go_simp; (try with_reducible rfl)
                  (try simp only [List.set_cons_zero, List.set_cons_succ])
                  refine wpAnyH_takeD (i := 28) (d := 82) (v := ?_) rfl rfl (by kernel_rfl) (by kernel_rfl) (by kernel_rfl) (fun _ _ _ h => h) (Or.inl ⟨by rfl, ?_⟩) (by assumption) ?_; rotate_left
                  · intro W hSw; (try dsimp only at hSw); go_simp; (try with_reducible rfl)
                  (try simp only [List.set_cons_zero, List.set_cons_succ])
                  clear hHeld
                  refine wpAnyH_done (by kernel_rfl) ?_ _
                  clear d1 d2 d3 HK3
                  go_wp2_with fail
                  go_roundw
                  case rel => exact ⟨q + 1, by omega, by go_num, HY.out.trans (BW_wd.out.mono (by omega)), by show _ = _; rw [HZQ.out, HZ6.out]⟩
                  case measure => simp [intOf]; omega
                · have hz0 : z = false := by rw [← HEP.out, hne]; rfl
                  subst hz0
                  have hne2 : (xp != xk) = true := by rw [bne, hne]; rfl
                  clear HEP HZQ HIN HRE HTG HV HCN HQ
                  refine wp_region_held_drew (S := fun W => W.cell? ⟨w.heap.size + 1, 1, none⟩ = some (.slice (some ⟨pb, po, none⟩) m cc) ∧ W.cell? ⟨w.heap.size, 1, none⟩ = some (.slice (some ⟨b, off, none⟩) n c) ∧ W.cell? ⟨bw, 1, none⟩ = some (.int .i64 (j : Int)) ∧ W.cell? ⟨b, off + j * 5 + 1, none⟩ = some (.slice (some ⟨jb, jo, none⟩) mj ccj) ∧ W.cell? ⟨jb, jo + q * 2 + 1, none⟩ = some (.int .i64 xk) ∧ W.cell? ⟨pb, po + p * 2 + 1, none⟩ = some (.int .i64 xp)) (by kernel_rfl) (HK3.out _ (Below.refl _ _).drew) (fun hHeld => ?_)
                  obtain ⟨wd, hwd⟩ : ∃ wd, w5.drew = wd := ⟨_, rfl⟩
                  have BW_wd : Hid (Below w5.heap.size w5 wd) := by rw [← hwd]; exact (Below.refl _ _).drew
                  rw [hwd] at hHeld ⊢
                  clear hwd
                  refine wpAnyH_takeD (i := 0) (d := 54) (v := ?_) rfl rfl (by kernel_rfl) (by kernel_rfl) (by kernel_rfl) (fun _ _ _ h => h) (Or.inl ⟨by rfl, ?_⟩) (by assumption) ?_; rotate_left
                  · intro W hSw; (try dsimp only at hSw); go_simp; (try with_reducible rfl)
                  (try simp only [List.set_cons_zero, List.set_cons_succ])
                  refine wpAnyH_takeD (i := 1) (d := 55) (v := ?_) rfl rfl (by kernel_rfl) (by kernel_rfl) (by kernel_rfl) (fun _ _ _ h => h) (Or.inl ⟨by rfl, ?_⟩) (by assumption) ?_; rotate_left
                  · intro W hSw; (try dsimp only at hSw); go_simp; (try with_reducible rfl)
                  (try simp only [List.set_cons_zero, List.set_cons_succ])
                  refine wpAnyH_takeD (i := 2) (d := 56) (v := ?_) rfl rfl (by kernel_rfl) (by kernel_rfl) (by kernel_rfl) (fun _ _ _ h => h) (Or.inl ⟨by rfl, ?_⟩) (by assumption) ?_; rotate_left
                  · intro W hSw; (try dsimp only at hSw); go_simp; (try with_reducible rfl)
                  (try simp only [List.set_cons_zero, List.set_cons_succ])
                  refine wpAnyH_takeD (i := 3) (d := 57) (v := ?_) rfl rfl (by kernel_rfl) (by kernel_rfl) (by kernel_rfl) (fun _ _ _ h => h) (Or.inl ⟨by rfl, ?_⟩) (by assumption) ?_; rotate_left
                  · intro W hSw; (try dsimp only at hSw); go_simp; (try with_reducible rfl)
                  (try simp only [List.set_cons_zero, List.set_cons_succ])
                  refine wpAnyH_takeD (i := 4) (d := 58) (v := ?_) rfl rfl (by kernel_rfl) (by kernel_rfl) (by kernel_rfl) (fun _ _ _ h => h) (Or.inl ⟨by rfl, ?_⟩) (by assumption) ?_; rotate_left
                  · intro W hSw; (try dsimp only at hSw); go_simp; (try with_reducible rfl)
                  (try simp only [List.set_cons_zero, List.set_cons_succ])
                  refine wpAnyH_takeD (i := 5) (d := 59) (v := ?_) rfl rfl (by kernel_rfl) (by kernel_rfl) (by kernel_rfl) (fun _ _ _ h => h) (Or.inl ⟨by rfl, ?_⟩) (by assumption) ?_; rotate_left
                  · intro W hSw; (try dsimp only at hSw); go_simp; (try with_reducible rfl)
                  (try simp only [List.set_cons_zero, List.set_cons_succ])
                  refine wpAnyH_takeD (i := 6) (d := 60) (v := ?_) rfl rfl (by kernel_rfl) (by kernel_rfl) (by kernel_rfl) (fun _ _ _ h => h) (Or.inl ⟨by rfl, ?_⟩) (by assumption) ?_; rotate_left
                  · intro W hSw; (try dsimp only at hSw); go_simp; (try with_reducible rfl)
                  (try simp only [List.set_cons_zero, List.set_cons_succ])
                  refine wpAnyH_takeD (i := 7) (d := 61) (v := ?_) rfl rfl (by kernel_rfl) (by kernel_rfl) (by kernel_rfl) (fun _ _ _ h => h) (Or.inl ⟨by rfl, ?_⟩) (by assumption) ?_; rotate_left
                  · intro W hSw; (try dsimp only at hSw); go_simp; (try with_reducible rfl)
                  (try simp only [List.set_cons_zero, List.set_cons_succ])
                  refine wpAnyH_takeD (i := 8) (d := 62) (v := ?_) rfl rfl (by kernel_rfl) (by kernel_rfl) (by kernel_rfl) (fun _ _ _ h => h) (Or.inl ⟨by rfl, ?_⟩) (by assumption) ?_; rotate_left
                  · intro W hSw; (try dsimp only at hSw); go_simp; (try with_reducible rfl)
                  (try simp only [List.set_cons_zero, List.set_cons_succ])
                  refine wpAnyH_takeD (i := 9) (d := 63) (v := ?_) rfl rfl (by kernel_rfl) (by kernel_rfl) (by kernel_rfl) (fun _ _ _ h => h) (Or.inl ⟨by rfl, ?_⟩) (by assumption) ?_; rotate_left
                  · intro W hSw; (try dsimp only at hSw); go_simp; (try with_reducible rfl)
                  (try simp only [List.set_cons_zero, List.set_cons_succ])
                  refine wpAnyH_takeD (i := 10) (d := 64) (v := ?_) rfl rfl (by kernel_rfl) (by kernel_rfl) (by kernel_rfl) (fun _ _ _ h => h) (Or.inl ⟨by rfl, ?_⟩) (by assumption) ?_; rotate_left
                  · intro W hSw; (try dsimp only at hSw); go_simp; (try with_reducible rfl)
                  (try simp only [List.set_cons_zero, List.set_cons_succ])
                  refine wpAnyH_takeD (i := 11) (d := 65) (v := ?_) rfl rfl (by kernel_rfl) (by kernel_rfl) (by kernel_rfl) (fun _ _ _ h => h) (Or.inl ⟨by rfl, ?_⟩) (by assumption) ?_; rotate_left
                  · intro W hSw; (try dsimp only at hSw); go_simp; (try with_reducible rfl)
                  (try simp only [List.set_cons_zero, List.set_cons_succ])
                  refine wpAnyH_takeD (i := 12) (d := 66) (v := ?_) rfl rfl (by kernel_rfl) (by kernel_rfl) (by kernel_rfl) (fun _ _ _ h => h) (Or.inl ⟨by rfl, ?_⟩) (by assumption) ?_; rotate_left
                  · intro W hSw; (try dsimp only at hSw); go_simp; (try with_reducible rfl)
                  (try simp only [List.set_cons_zero, List.set_cons_succ])
                  refine wpAnyH_takeD (i := 13) (d := 67) (v := ?_) rfl rfl (by kernel_rfl) (by kernel_rfl) (by kernel_rfl) (fun _ _ _ h => h) (Or.inl ⟨by rfl, ?_⟩) (by assumption) ?_; rotate_left
                  · intro W hSw; (try dsimp only at hSw); go_simp; (try with_reducible rfl)
                  (try simp only [List.set_cons_zero, List.set_cons_succ])
                  refine wpAnyH_takeD (i := 14) (d := 68) (v := ?_) rfl rfl (by kernel_rfl) (by kernel_rfl) (by kernel_rfl) (fun _ _ _ h => h) (Or.inl ⟨by rfl, ?_⟩) (by assumption) ?_; rotate_left
                  · intro W hSw; (try dsimp only at hSw); go_simp; (try with_reducible rfl)
                  (try simp only [List.set_cons_zero, List.set_cons_succ])
                  refine wpAnyH_takeD (i := 15) (d := 69) (v := ?_) rfl rfl (by kernel_rfl) (by kernel_rfl) (by kernel_rfl) (fun _ _ _ h => h) (Or.inl ⟨by rfl, ?_⟩) (by assumption) ?_; rotate_left
                  · intro W hSw; (try dsimp only at hSw); go_simp; (try with_reducible rfl)
                  (try simp only [List.set_cons_zero, List.set_cons_succ])
                  refine wpAnyH_takeD (i := 16) (d := 70) (v := ?_) rfl rfl (by kernel_rfl) (by kernel_rfl) (by kernel_rfl) (fun _ _ _ h => h) (Or.inl ⟨by rfl, ?_⟩) (by assumption) ?_; rotate_left
                  · intro W hSw; (try dsimp only at hSw); go_simp; (try with_reducible rfl)
                  (try simp only [List.set_cons_zero, List.set_cons_succ])
                  refine wpAnyH_takeD (i := 17) (d := 71) (v := ?_) rfl rfl (by kernel_rfl) (by kernel_rfl) (by kernel_rfl) (fun _ _ _ h => h) (Or.inl ⟨by rfl, ?_⟩) (by assumption) ?_; rotate_left
                  · intro W hSw; (try dsimp only at hSw); go_simp; (try with_reducible rfl)
                  (try simp only [List.set_cons_zero, List.set_cons_succ])
                  refine wpAnyH_takeD (i := 18) (d := 72) (v := ?_) rfl rfl (by kernel_rfl) (by kernel_rfl) (by kernel_rfl) (fun _ _ _ h => h) (Or.inl ⟨by rfl, ?_⟩) (by assumption) ?_; rotate_left
                  · intro W hSw; (try dsimp only at hSw); go_simp; (try with_reducible rfl)
                  (try simp only [List.set_cons_zero, List.set_cons_succ])
                  refine wpAnyH_takeD (i := 19) (d := 73) (v := ?_) rfl rfl (by kernel_rfl) (by kernel_rfl) (by kernel_rfl) (fun _ _ _ h => h) (Or.inl ⟨by rfl, ?_⟩) (by assumption) ?_; rotate_left
                  · intro W hSw; (try dsimp only at hSw); go_simp; (try with_reducible rfl)
                  (try simp only [List.set_cons_zero, List.set_cons_succ])
                  refine wpAnyH_takeD (i := 20) (d := 74) (v := ?_) rfl rfl (by kernel_rfl) (by kernel_rfl) (by kernel_rfl) (fun _ _ _ h => h) (Or.inl ⟨by rfl, ?_⟩) (by assumption) ?_; rotate_left
                  · intro W hSw; (try dsimp only at hSw); go_simp; (try with_reducible rfl)
                  (try simp only [List.set_cons_zero, List.set_cons_succ])
                  refine wpAnyH_takeD (i := 21) (d := 75) (v := ?_) rfl rfl (by kernel_rfl) (by kernel_rfl) (by kernel_rfl) (fun _ _ _ h => h) (Or.inl ⟨by rfl, ?_⟩) (by assumption) ?_; rotate_left
                  · intro W hSw; (try dsimp only at hSw); go_simp; (try with_reducible rfl)
                  (try simp only [List.set_cons_zero, List.set_cons_succ])
                  refine wpAnyH_takeD (i := 22) (d := 76) (v := ?_) rfl rfl (by kernel_rfl) (by kernel_rfl) (by kernel_rfl) (fun _ _ _ h => h) (Or.inl ⟨by rfl, ?_⟩) (by assumption) ?_; rotate_left
                  · intro W hSw; (try dsimp only at hSw); go_simp; (try with_reducible rfl)
                  (try simp only [List.set_cons_zero, List.set_cons_succ])
                  refine wpAnyH_takeD (i := 23) (d := 77) (v := ?_) rfl rfl (by kernel_rfl) (by kernel_rfl) (by kernel_rfl) (fun _ _ _ h => h) (Or.inl ⟨by rfl, ?_⟩) (by assumption) ?_; rotate_left
                  · intro W hSw; (try dsimp only at hSw); go_simp; (try with_reducible rfl)
                  (try simp only [List.set_cons_zero, List.set_cons_succ])
                  refine wpAnyH_takeD (i := 24) (d := 78) (v := ?_) rfl rfl (by kernel_rfl) (by kernel_rfl) (by kernel_rfl) (fun _ _ _ h => h) (Or.inl ⟨by rfl, ?_⟩) (by assumption) ?_; rotate_left
                  · intro W hSw; (try dsimp only at hSw); go_simp; (try with_reducible rfl)
                  (try simp only [List.set_cons_zero, List.set_cons_succ])
                  refine wpAnyH_takeD (i := 25) (d := 79) (v := ?_) rfl rfl (by kernel_rfl) (by kernel_rfl) (by kernel_rfl) (fun _ _ _ h => h) (Or.inl ⟨by rfl, ?_⟩) (by assumption) ?_; rotate_left
                  · intro W hSw; (try dsimp only at hSw); go_simp; (try with_reducible rfl)
                  (try simp only [List.set_cons_zero, List.set_cons_succ])
                  refine wpAnyH_takeD (i := 26) (d := 80) (v := ?_) rfl rfl (by kernel_rfl) (by kernel_rfl) (by kernel_rfl) (fun _ _ _ h => h) (Or.inl ⟨by rfl, ?_⟩) (by assumption) ?_; rotate_left
                  · intro W hSw; (try dsimp only at hSw); go_simp; (try with_reducible rfl)
                  (try simp only [List.set_cons_zero, List.set_cons_succ])
                  refine wpAnyH_takeD (i := 27) (d := 81) (v := ?_) rfl rfl (by kernel_rfl) (by kernel_rfl) (by kernel_rfl) (fun _ _ _ h => h) (Or.inl ⟨by rfl, ?_⟩) (by assumption) ?_; rotate_left
                  · intro W hSw; (try dsimp only at hSw); go_simp; (try with_reducible rfl)
                  (try simp only [List.set_cons_zero, List.set_cons_succ])
                  refine wpAnyH_takeD (i := 28) (d := 82) (v := ?_) rfl rfl (by kernel_rfl) (by kernel_rfl) (by kernel_rfl) (fun _ _ _ h => h) (Or.inl ⟨by rfl, ?_⟩) (by assumption) ?_; rotate_left
                  · intro W hSw; (try dsimp only at hSw); go_simp; (try with_reducible rfl)
                  (try simp only [List.set_cons_zero, List.set_cons_succ])
                  clear hHeld
                  refine wpAnyH_done (by kernel_rfl) ?_ _
                  go_wp2_with fail
                  go_ret
                  exact ⟨rfl, HB5.out.trans (BW_wd.out.mono (by have := HB5.out.size; omega))⟩
            · have hqe : q = mc := by omega
              subst hqe
              have HZ7 : Hid ((rs.drop (k + 1)).all (refB ⟨ver, ts⟩ cs) = z) := by
                show _ = _
                rw [HZR.out, ← HZ5.out, refL_end _ _ _ _ (by rw [HMC.out]; exact Nat.le_refl _)]; rfl
              have B7 : Hid (Below wa.heap.size wa w5) := BL.out.trans (HB6.out.mono (by have := BL.out.size; omega))
              clear HZ5 HZR HIN HQ
              go_wp2_with fail
              go_roundw
              case rel => exact ⟨k + 1, by omega, by go_num, B7, HZ7⟩
              case measure => simp [intOf]; omega
        · have hz0 : z = false := by
            rw [← HZJ.out, show decide (mc = kj.toNat) = false from by simp; omega]; rfl
          subst hz0
          have d4 : ((mc : Int) != kj) = true := by simpa using hmk
          have d5 : ((mc : Int) == kj) = false := by simpa using hmk
          clear HZJ hmk HZR HIN HQ HRE HTG HV HCN HKN
          refine wp_region_held_drew (S := fun W => W.cell? ⟨bw, 0, none⟩ = some (.slice ia mc ic) ∧ W.cell? ⟨bw, 1, none⟩ = some (.int .i64 (j : Int)) ∧ W.cell? ⟨w.heap.size, 1, none⟩ = some (.slice (some ⟨b, off, none⟩) n c) ∧ W.cell? ⟨b, off + j * 5 + 2, none⟩ = some (.int .i64 kj)) (by kernel_rfl) (HK.out _ (Below.refl _ _).drew) (fun hHeld => ?_)
          obtain ⟨wd, hwd⟩ : ∃ wd, wl.drew = wd := ⟨_, rfl⟩
          have BW_wd : Hid (Below wl.heap.size wl wd) := by rw [← hwd]; exact (Below.refl _ _).drew
          rw [hwd] at hHeld ⊢
          clear hwd
          refine wpAnyH_takeD (i := 0) (d := 22) (v := ?_) rfl rfl (by kernel_rfl) (by kernel_rfl) (by kernel_rfl) (fun _ _ _ h => h) (Or.inl ⟨by rfl, ?_⟩) (by assumption) ?_; rotate_left
          · intro W hSw; (try dsimp only at hSw); go_simp; (try with_reducible rfl)
          (try simp only [List.set_cons_zero, List.set_cons_succ])
          refine wpAnyH_takeD (i := 1) (d := 23) (v := ?_) rfl rfl (by kernel_rfl) (by kernel_rfl) (by kernel_rfl) (fun _ _ _ h => h) (Or.inl ⟨by rfl, ?_⟩) (by assumption) ?_; rotate_left
          · intro W hSw; (try dsimp only at hSw); go_simp; (try with_reducible rfl)
          (try simp only [List.set_cons_zero, List.set_cons_succ])
          refine wpAnyH_takeD (i := 2) (d := 24) (v := ?_) rfl rfl (by kernel_rfl) (by kernel_rfl) (by kernel_rfl) (fun _ _ _ h => h) (Or.inl ⟨by rfl, ?_⟩) (by assumption) ?_; rotate_left
          · intro W hSw; (try dsimp only at hSw); go_simp; (try with_reducible rfl)
          (try simp only [List.set_cons_zero, List.set_cons_succ])
          refine wpAnyH_takeD (i := 3) (d := 25) (v := ?_) rfl rfl (by kernel_rfl) (by kernel_rfl) (by kernel_rfl) (fun _ _ _ h => h) (Or.inl ⟨by rfl, ?_⟩) (by assumption) ?_; rotate_left
          · intro W hSw; (try dsimp only at hSw); go_simp; (try with_reducible rfl)
          (try simp only [List.set_cons_zero, List.set_cons_succ])
          refine wpAnyH_takeD (i := 4) (d := 26) (v := ?_) rfl rfl (by kernel_rfl) (by kernel_rfl) (by kernel_rfl) (fun _ _ _ h => h) (Or.inl ⟨by rfl, ?_⟩) (by assumption) ?_; rotate_left
          · intro W hSw; (try dsimp only at hSw); go_simp; (try with_reducible rfl)
          (try simp only [List.set_cons_zero, List.set_cons_succ])
          refine wpAnyH_takeD (i := 5) (d := 27) (v := ?_) rfl rfl (by kernel_rfl) (by kernel_rfl) (by kernel_rfl) (fun _ _ _ h => h) (Or.inl ⟨by rfl, ?_⟩) (by assumption) ?_; rotate_left
          · intro W hSw; (try dsimp only at hSw); go_simp; (try with_reducible rfl)
          (try simp only [List.set_cons_zero, List.set_cons_succ])
          refine wpAnyH_takeD (i := 6) (d := 28) (v := ?_) rfl rfl (by kernel_rfl) (by kernel_rfl) (by kernel_rfl) (fun _ _ _ h => h) (Or.inl ⟨by rfl, ?_⟩) (by assumption) ?_; rotate_left
          · intro W hSw; (try dsimp only at hSw); go_simp; (try with_reducible rfl)
          (try simp only [List.set_cons_zero, List.set_cons_succ])
          refine wpAnyH_takeD (i := 7) (d := 29) (v := ?_) rfl rfl (by kernel_rfl) (by kernel_rfl) (by kernel_rfl) (fun _ _ _ h => h) (Or.inl ⟨by rfl, ?_⟩) (by assumption) ?_; rotate_left
          · intro W hSw; (try dsimp only at hSw); go_simp; (try with_reducible rfl)
          (try simp only [List.set_cons_zero, List.set_cons_succ])
          refine wpAnyH_takeD (i := 8) (d := 30) (v := ?_) rfl rfl (by kernel_rfl) (by kernel_rfl) (by kernel_rfl) (fun _ _ _ h => h) (Or.inl ⟨by rfl, ?_⟩) (by assumption) ?_; rotate_left
          · intro W hSw; (try dsimp only at hSw); go_simp; (try with_reducible rfl)
          (try simp only [List.set_cons_zero, List.set_cons_succ])
          refine wpAnyH_takeD (i := 9) (d := 31) (v := ?_) rfl rfl (by kernel_rfl) (by kernel_rfl) (by kernel_rfl) (fun _ _ _ h => h) (Or.inl ⟨by rfl, ?_⟩) (by assumption) ?_; rotate_left
          · intro W hSw; (try dsimp only at hSw); go_simp; (try with_reducible rfl)
          (try simp only [List.set_cons_zero, List.set_cons_succ])
          refine wpAnyH_takeD (i := 10) (d := 32) (v := ?_) rfl rfl (by kernel_rfl) (by kernel_rfl) (by kernel_rfl) (fun _ _ _ h => h) (Or.inl ⟨by rfl, ?_⟩) (by assumption) ?_; rotate_left
          · intro W hSw; (try dsimp only at hSw); go_simp; (try with_reducible rfl)
          (try simp only [List.set_cons_zero, List.set_cons_succ])
          refine wpAnyH_takeD (i := 11) (d := 33) (v := ?_) rfl rfl (by kernel_rfl) (by kernel_rfl) (by kernel_rfl) (fun _ _ _ h => h) (Or.inl ⟨by rfl, ?_⟩) (by assumption) ?_; rotate_left
          · intro W hSw; (try dsimp only at hSw); go_simp; (try with_reducible rfl)
          (try simp only [List.set_cons_zero, List.set_cons_succ])
          refine wpAnyH_takeD (i := 12) (d := 34) (v := ?_) rfl rfl (by kernel_rfl) (by kernel_rfl) (by kernel_rfl) (fun _ _ _ h => h) (Or.inl ⟨by rfl, ?_⟩) (by assumption) ?_; rotate_left
          · intro W hSw; (try dsimp only at hSw); go_simp; (try with_reducible rfl)
          (try simp only [List.set_cons_zero, List.set_cons_succ])
          refine wpAnyH_takeD (i := 13) (d := 35) (v := ?_) rfl rfl (by kernel_rfl) (by kernel_rfl) (by kernel_rfl) (fun _ _ _ h => h) (Or.inl ⟨by rfl, ?_⟩) (by assumption) ?_; rotate_left
          · intro W hSw; (try dsimp only at hSw); go_simp; (try with_reducible rfl)
          (try simp only [List.set_cons_zero, List.set_cons_succ])
          refine wpAnyH_takeD (i := 14) (d := 36) (v := ?_) rfl rfl (by kernel_rfl) (by kernel_rfl) (by kernel_rfl) (fun _ _ _ h => h) (Or.inl ⟨by rfl, ?_⟩) (by assumption) ?_; rotate_left
          · intro W hSw; (try dsimp only at hSw); go_simp; (try with_reducible rfl)
          (try simp only [List.set_cons_zero, List.set_cons_succ])
          refine wpAnyH_takeD (i := 15) (d := 37) (v := ?_) rfl rfl (by kernel_rfl) (by kernel_rfl) (by kernel_rfl) (fun _ _ _ h => h) (Or.inl ⟨by rfl, ?_⟩) (by assumption) ?_; rotate_left
          · intro W hSw; (try dsimp only at hSw); go_simp; (try with_reducible rfl)
          (try simp only [List.set_cons_zero, List.set_cons_succ])
          refine wpAnyH_takeD (i := 16) (d := 38) (v := ?_) rfl rfl (by kernel_rfl) (by kernel_rfl) (by kernel_rfl) (fun _ _ _ h => h) (Or.inl ⟨by rfl, ?_⟩) (by assumption) ?_; rotate_left
          · intro W hSw; (try dsimp only at hSw); go_simp; (try with_reducible rfl)
          (try simp only [List.set_cons_zero, List.set_cons_succ])
          refine wpAnyH_takeD (i := 17) (d := 39) (v := ?_) rfl rfl (by kernel_rfl) (by kernel_rfl) (by kernel_rfl) (fun _ _ _ h => h) (Or.inl ⟨by rfl, ?_⟩) (by assumption) ?_; rotate_left
          · intro W hSw; (try dsimp only at hSw); go_simp; (try with_reducible rfl)
          (try simp only [List.set_cons_zero, List.set_cons_succ])
          refine wpAnyH_takeD (i := 18) (d := 40) (v := ?_) rfl rfl (by kernel_rfl) (by kernel_rfl) (by kernel_rfl) (fun _ _ _ h => h) (Or.inl ⟨by rfl, ?_⟩) (by assumption) ?_; rotate_left
          · intro W hSw; (try dsimp only at hSw); go_simp; (try with_reducible rfl)
          (try simp only [List.set_cons_zero, List.set_cons_succ])
          refine wpAnyH_takeD (i := 19) (d := 41) (v := ?_) rfl rfl (by kernel_rfl) (by kernel_rfl) (by kernel_rfl) (fun _ _ _ h => h) (Or.inl ⟨by rfl, ?_⟩) (by assumption) ?_; rotate_left
          · intro W hSw; (try dsimp only at hSw); go_simp; (try with_reducible rfl)
          (try simp only [List.set_cons_zero, List.set_cons_succ])
          refine wpAnyH_takeD (i := 20) (d := 42) (v := ?_) rfl rfl (by kernel_rfl) (by kernel_rfl) (by kernel_rfl) (fun _ _ _ h => h) (Or.inl ⟨by rfl, ?_⟩) (by assumption) ?_; rotate_left
          · intro W hSw; (try dsimp only at hSw); go_simp; (try with_reducible rfl)
          (try simp only [List.set_cons_zero, List.set_cons_succ])
          refine wpAnyH_takeD (i := 21) (d := 43) (v := ?_) rfl rfl (by kernel_rfl) (by kernel_rfl) (by kernel_rfl) (fun _ _ _ h => h) (Or.inl ⟨by rfl, ?_⟩) (by assumption) ?_; rotate_left
          · intro W hSw; (try dsimp only at hSw); go_simp; (try with_reducible rfl)
          (try simp only [List.set_cons_zero, List.set_cons_succ])
          refine wpAnyH_takeD (i := 22) (d := 44) (v := ?_) rfl rfl (by kernel_rfl) (by kernel_rfl) (by kernel_rfl) (fun _ _ _ h => h) (Or.inl ⟨by rfl, ?_⟩) (by assumption) ?_; rotate_left
          · intro W hSw; (try dsimp only at hSw); go_simp; (try with_reducible rfl)
          (try simp only [List.set_cons_zero, List.set_cons_succ])
          refine wpAnyH_takeD (i := 23) (d := 45) (v := ?_) rfl rfl (by kernel_rfl) (by kernel_rfl) (by kernel_rfl) (fun _ _ _ h => h) (Or.inl ⟨by rfl, ?_⟩) (by assumption) ?_; rotate_left
          · intro W hSw; (try dsimp only at hSw); go_simp; (try with_reducible rfl)
          (try simp only [List.set_cons_zero, List.set_cons_succ])
          clear hHeld
          refine wpAnyH_done (by kernel_rfl) ?_ _
          go_wp2_with fail
          go_ret
          exact ⟨rfl, HB4.out.trans (BW_wd.out.mono (by have := HB4.out.size; omega))⟩
    · have hke : k = nr := by omega
      subst hke
      have hz0 : z = true := by rw [← HZ.out, List.drop_eq_nil_of_le (by rw [HNR.out]; exact Nat.le_refl _)]; rfl
      subst hz0
      clear HZ
      go_wp2_with fail
      go_ret
      exact ⟨rfl, HB3.out⟩
end Go.Proofs.Ytjcbmeannhafjaa

/- The reference's Check of schemas. -/
namespace Go.Proofs.Ytjcbmeannhafjaa

open Go.RowKit Go.Deep

set_option linter.unusedSimpArgs false in
set_option maxRecDepth 100000 in
set_option maxHeartbeats 16000000 in
theorem rCheckS_any {P : Nat → Prop} (v : Value) (s : SC) (w : World) (h : Sc P w v s) : Calls Try.prog 12 #[v] w fun e w' => e = .returned (.int .i64 (checkS s)) ∧ Below w.heap.size w w' := by
  have HTB := Lib.hid (fun k (hk : k < s.ts.length) W (hb : Below w.heap.size w W) => rTable_any v s k hk W (h.below hb))
  have HRF : Hid (∀ k (hk : k < s.ts.length) (ti : Bool), refsT s s.ts[k] = ti → validT s.ts → ∀ W, Below w.heap.size w W → Calls Try.prog 40 #[v, .int .i64 (k : Int)] W fun e w' => e = .returned (.bool ti) ∧ Below W.heap.size W w') := fun k hk ti hti hv W hb => by
    have h := rReferences_any v s k hk W (h.below hb) hv
    unfold TabR at h
    rw [hti] at h; exact h
  have HKI := Lib.hid (fun (i : Int) W (hb : Below w.heap.size w W) => rKinds_any v s i W (h.below hb))
  unfold TabR at HTB
  unfold KndOwn at HKI
  obtain ⟨tv, rfl, hs⟩ := h
  obtain ⟨a, c, rfl, hf⟩ := hs.shape
  have hfew := hf.few
  have H := Lib.hid hs
  obtain ⟨n, hn⟩ : ∃ n, s.ts.length = n := ⟨_, rfl⟩
  obtain ⟨z, hz⟩ : ∃ z, checkS s = z := ⟨_, rfl⟩
  rw [hz]
  unfold checkS smallS soundS at hz
  obtain ⟨ya, hya⟩ : ∃ y, s.ts.all smallT = y := ⟨_, rfl⟩
  obtain ⟨yb, hyb⟩ : ∃ y, tabsB [] s.ts = y := ⟨_, rfl⟩
  obtain ⟨yc, hyc⟩ : ∃ y, s.ts.all (refsT s) = y := ⟨_, rfl⟩
  obtain ⟨sv, hsv⟩ : ∃ sv, s.ver = sv := ⟨_, rfl⟩
  rw [hya, hyb, hyc, hn, hsv] at hz
  have HZ := Lib.hid hz
  have HYA : Hid ((s.ts.drop 0).all smallT = ya) := hya
  have HYB : Hid (tabsB (tabS s.ts 0) (s.ts.drop 0) = yb) := hyb
  have HYBK : Hid (tabsB [] s.ts = yb) := hyb
  have HYC : Hid ((s.ts.drop 0).all (refsT s) = yc) := hyc
  have HN := Lib.hid hn
  rw [hn] at H hfew HTB HKI ⊢
  rw [hsv] at HTB HKI ⊢
  have HSV := Lib.hid hsv
  obtain ⟨wa, hwa⟩ : ∃ wa, w.alloc (.cells #[.int .i64 sv, .slice a n c] 25) = wa := ⟨_, rfl⟩
  have BA : Hid (Below w.heap.size w wa) := by rw [← hwa]; exact (Below.refl _ _).alloc (Nat.le_refl _) _
  have hza : wa.heap.size = w.heap.size + 1 := by rw [← hwa]; simp
  have q0 : wa.cell? ⟨w.heap.size, 0, none⟩ = some (.int .i64 sv) := by subst hwa; go_simp
  have q1 : wa.cell? ⟨w.heap.size, 1, none⟩ = some (.slice a n c) := by subst hwa; go_simp
  have HQ : Hid (∀ W, Below wa.heap.size wa W → W.cell? ⟨w.heap.size, 0, none⟩ = some (.int .i64 sv) ∧ W.cell? ⟨w.heap.size, 1, none⟩ = some (.slice a n c)) := fun W hb =>
    ⟨(hb.cell (p := ⟨w.heap.size, 0, none⟩) (show w.heap.size < _ by omega)).trans q0, (hb.cell (p := ⟨w.heap.size, 1, none⟩) (show w.heap.size < _ by omega)).trans q1⟩
  have hl0 : w.heap.size < wa.heap.size := by omega
  clear hs hf hn hz hya hyb hyc hsv
  by_cases hn8 : 8 < n
  · have hz0 : z = 2 := by rw [← HZ.out, show decide (n ≤ 8) = false from by simp; omega]; rfl
    have e1 : decide ((8 : Int) < n) = true := by simp; omega
    subst hz0
    clear HZ HYA HYB HYC hn8
    go_enter Try.func12, Try.ntmps12
    go_upto_region 1 with fail
    try rw [hwa]
    clear hwa
    go_wp2_with fail
    go_ret
    exact ⟨rfl, BA.out⟩
  have e1 : decide ((8 : Int) < n) = false := by simp; omega
  have HZ1 : Hid ((if ya = false then 2 else if (decide (0 ≤ sv) && (decide (sv ≤ 1000) && (yb && yc))) = false then 70 else fstT s.ts) = z) := by
    show _ = _; rw [← HZ.out, show decide (n ≤ 8) = true from by simp; omega, Bool.true_and]
  clear HZ
  go_enter Try.func12, Try.ntmps12
  go_upto_region 1 with fail
  try rw [hwa]
  clear hwa
  go_wp2_with fail
  clear e1
  go_loopw [18] (fun s18 wr => ∃ k : Nat, k ≤ n ∧ s18 = .int .i64 k ∧ Hid (Below wa.heap.size wa wr) ∧ Hid ((s.ts.drop k).all smallT = ya)) (fun s18 _ => n - (intOf s18).toNat)
  case atStart => exact ⟨0, by omega, rfl, Below.refl _ _, HYA⟩
  case round =>
    clear HYA q0 q1
    obtain ⟨w0, rfl⟩ : ∃ x, x = wr := ⟨wr, rfl⟩
    obtain ⟨k, hk, rfl, HX, HT⟩ := hrel
    have hzz := HX.out.size
    have HW : Hid (Below w.heap.size w w0) := BA.out.trans (HX.out.mono (by omega))
    obtain ⟨q0, q1⟩ := HQ.out w0 HX.out
    have hl1 : w.heap.size < w0.heap.size := by omega
    by_cases hlt : k < n
    · have hlt' : (k : Int) < n := by omega
      have hkc : k < s.ts.length := by rw [HN.out]; exact hlt
      obtain ⟨b, off, rfl, -, hb, ca, cc, ra, rc, pa, pc, c0, c1, c2, c3, c4, htb⟩ := tab_get H.out hkc
      have HD := Lib.hid (smallT_drop s.ts k hkc)
      rw [show smallT s.ts[k] = (decide (s.ts[k].cs.length ≤ 8) && (decide (s.ts[k].rs.length ≤ 4) && decide (s.ts[k].ck.length ≤ 4))) from rfl] at HD
      replace c0 := (HW.out.cell (p := ⟨b, off + k * 5, none⟩) hb).trans c0
      replace c1 := (HW.out.cell (p := ⟨b, off + k * 5 + 1, none⟩) hb).trans c1
      replace c2 := (HW.out.cell (p := ⟨b, off + k * 5 + 2, none⟩) hb).trans c2
      replace c3 := (HW.out.cell (p := ⟨b, off + k * 5 + 3, none⟩) hb).trans c3
      replace c4 := (HW.out.cell (p := ⟨b, off + k * 5 + 4, none⟩) hb).trans c4
      have hbw : b < w0.heap.size := Nat.lt_of_lt_of_le hb HW.out.size
      obtain ⟨x0, hx0⟩ : ∃ x, s.ts[k].s = x := ⟨_, rfl⟩
      obtain ⟨x1, hx1⟩ : ∃ x, s.ts[k].cs.length = x := ⟨_, rfl⟩
      obtain ⟨x2, hx2⟩ : ∃ x, s.ts[k].key = x := ⟨_, rfl⟩
      obtain ⟨x3, hx3⟩ : ∃ x, s.ts[k].rs.length = x := ⟨_, rfl⟩
      obtain ⟨x4, hx4⟩ : ∃ x, s.ts[k].ck.length = x := ⟨_, rfl⟩
      rw [hx1, hx3, hx4] at HD
      rw [hx0] at c0
      rw [hx1] at c1
      rw [hx2] at c2
      rw [hx3] at c3
      rw [hx4] at c4
      clear htb hx0 hx1 hx2 hx3 hx4
      have HBX : Hid (∀ O, Below w.heap.size w (w0.alloc O)) := fun O => HW.out.alloc HW.out.size _
      have hcase : 8 < x1 ∨ (x1 ≤ 8 ∧ 4 < x3) ∨ (x1 ≤ 8 ∧ x3 ≤ 4 ∧ 4 < x4) ∨ (x1 ≤ 8 ∧ x3 ≤ 4 ∧ x4 ≤ 4) := by omega
      rcases hcase with h1 | ⟨h1, h2⟩ | ⟨h1, h2, h3⟩ | ⟨h1, h2, h3⟩
      · have hy : ya = false := by rw [← HT.out, HD.out, show decide (x1 ≤ 8) = false from by simp; omega]; rfl
        subst hy
        have hz0 : z = 2 := by rw [← HZ1.out]; rfl
        subst hz0
        have e1 : decide ((8 : Int) < x1) = true := by simp; omega
        clear HZ1 HT HD
        go_wp2_with fail
        go_ret
        exact ⟨rfl, HBX.out _⟩
      · have hy : ya = false := by rw [← HT.out, HD.out, show decide (x3 ≤ 4) = false from by simp; omega]; simp
        subst hy
        have hz0 : z = 2 := by rw [← HZ1.out]; rfl
        subst hz0
        have e1 : decide ((8 : Int) < x1) = false := by simp; omega
        have e2 : decide ((4 : Int) < x3) = true := by simp; omega
        clear HZ1 HT HD
        go_wp2_with fail
        go_ret
        exact ⟨rfl, HBX.out _⟩
      · have hy : ya = false := by rw [← HT.out, HD.out, show decide (x4 ≤ 4) = false from by simp; omega]; simp
        subst hy
        have hz0 : z = 2 := by rw [← HZ1.out]; rfl
        subst hz0
        have e1 : decide ((8 : Int) < x1) = false := by simp; omega
        have e2 : decide ((4 : Int) < x3) = false := by simp; omega
        have e3 : decide ((4 : Int) < x4) = true := by simp; omega
        clear HZ1 HT HD
        go_wp2_with fail
        go_ret
        exact ⟨rfl, HBX.out _⟩
      · have HT2 : Hid ((s.ts.drop (k + 1)).all smallT = ya) := by
          show _ = _; rw [← HT.out, HD.out, show decide (x1 ≤ 8) = true from by simp; omega, show decide (x3 ≤ 4) = true from by simp; omega, show decide (x4 ≤ 4) = true from by simp; omega]; rfl
        have e1 : decide ((8 : Int) < x1) = false := by simp; omega
        have e2 : decide ((4 : Int) < x3) = false := by simp; omega
        have e3 : decide ((4 : Int) < x4) = false := by simp; omega
        clear HT HD
        go_wp2_with fail
        go_roundw
        case rel => exact ⟨k + 1, by omega, by go_num, HX.out.alloc (by omega) _, HT2⟩
        case measure => simp [intOf]; omega
    · have hke : k = n := by omega
      subst hke
      have hy : ya = true := by rw [← HT.out, List.drop_eq_nil_of_le (by rw [HN.out]; exact Nat.le_refl _)]; rfl
      subst hy
      clear HT
      have hcase : sv < 0 ∨ (0 ≤ sv ∧ 1000 < sv) ∨ (0 ≤ sv ∧ sv ≤ 1000) := by omega
      rcases hcase with h1 | ⟨h1, h2⟩ | ⟨h1, h2⟩
      · have hz0 : z = 70 := by rw [← HZ1.out, show decide (0 ≤ sv) = false from by simp; omega]; rfl
        subst hz0
        have e1 : decide (sv < 0) = true := by simpa using h1
        clear HZ1
        go_wp2_with fail
        go_ret
        exact ⟨rfl, HW.out⟩
      · have hz0 : z = 70 := by rw [← HZ1.out, show decide (sv ≤ 1000) = false from by simp; omega]; simp
        subst hz0
        have e1 : decide (sv < 0) = false := by simp; omega
        have e2 : decide (1000 < sv) = true := by simpa using h2
        clear HZ1
        go_wp2_with fail
        go_ret
        exact ⟨rfl, HW.out⟩
      have HZ2 : Hid ((if (yb && yc) = false then 70 else fstT s.ts) = z) := by
        show _ = _; rw [← HZ1.out, show decide (0 ≤ sv) = true from by simpa using h1, show decide (sv ≤ 1000) = true from by simpa using h2]; rfl
      have e1 : decide (sv < 0) = false := by simp; omega
      have e2 : decide (1000 < sv) = false := by simp; omega
      clear HZ1
      go_wp2_with fail
      clear e1 e2
      go_loopw [50] (fun s50 wr => ∃ j : Nat, j ≤ k ∧ s50 = .int .i64 j ∧ Hid (Below wa.heap.size wa wr) ∧ Hid (tabsB (tabS s.ts j) (s.ts.drop j) = yb)) (fun s50 _ => k - (intOf s50).toNat)
      case atStart => exact ⟨0, by omega, rfl, HX, HYB⟩
      case round =>
        clear HYB q0 q1 HX hzz HW hl1
        obtain ⟨w1, rfl⟩ : ∃ x, x = wr := ⟨wr, rfl⟩
        obtain ⟨j, hj, rfl, HX, HT⟩ := hrel
        have hzz := HX.out.size
        have HW : Hid (Below w.heap.size w w1) := BA.out.trans (HX.out.mono (by omega))
        obtain ⟨q0, q1⟩ := HQ.out w1 HX.out
        have hl1 : w.heap.size < w1.heap.size := by omega
        by_cases hlt2 : j < k
        · have hlt' : (j : Int) < k := by omega
          have hjc : j < s.ts.length := by rw [HN.out]; exact hlt2
          obtain ⟨ti, hti⟩ : ∃ ti, tabI s.ts j = ti := ⟨_, rfl⟩
          have HD : Hid ((ti && tabsB (tabS s.ts (j + 1)) (s.ts.drop (j + 1))) = yb) := by show _ = _; rw [← HT.out, tabsB_tabI _ _ hjc, hti]
          have HC := Lib.hid (HTB.out j hlt2 w1 HW.out)
          rw [hti] at HC
          clear HT hti
          go_wp2_with fail
          refine HC.out.mono ?_
          rintro e w2 ⟨rfl, hb⟩
          have HX2 : Hid (Below wa.heap.size wa w2) := HX.out.trans (hb.mono (by omega))
          have HW2 : Hid (Below w.heap.size w w2) := HW.out.trans (hb.mono HW.out.size)
          clear hb HC
          cases ti with
          | false =>
            have hy : yb = false := by rw [← HD.out]; rfl
            subst hy
            have hz0 : z = 70 := by rw [← HZ2.out]; rfl
            subst hz0
            clear HZ2 HD
            go_wp2_with fail
            go_ret
            exact ⟨rfl, HW2.out⟩
          | true =>
            have HT2 : Hid (tabsB (tabS s.ts (j + 1)) (s.ts.drop (j + 1)) = yb) := by show _ = _; rw [← HD.out]; rfl
            clear HD
            go_wp2_with fail
            go_roundw
            case rel => exact ⟨j + 1, by omega, by go_num, HX2, HT2⟩
            case measure => simp [intOf]; omega
        · have hje : j = k := by omega
          subst hje
          have hy : yb = true := by rw [← HT.out]; exact tabsB_end _ _ _ (by rw [HN.out]; exact Nat.le_refl _)
          have HVT : Hid (validT s.ts) := by
            have h := HYBK.out
            rw [hy] at h
            exact tabsB_valid _ _ h
          subst hy
          have HZ3 : Hid ((if yc = false then 70 else fstT s.ts) = z) := by show _ = _; rw [← HZ2.out]; rfl
          clear HT HZ2
          go_wp2_with fail
          go_loopw [61] (fun s61 wr => ∃ q : Nat, q ≤ j ∧ s61 = .int .i64 q ∧ Hid (Below wa.heap.size wa wr) ∧ Hid ((s.ts.drop q).all (refsT s) = yc)) (fun s61 _ => j - (intOf s61).toNat)
          case atStart => exact ⟨0, by omega, rfl, HX, HYC⟩
          case round =>
            clear HYC q0 q1 HX hzz HW hl1
            obtain ⟨w2, rfl⟩ : ∃ x, x = wr := ⟨wr, rfl⟩
            obtain ⟨q, hq, rfl, HX, HT⟩ := hrel
            have hzz := HX.out.size
            have HW : Hid (Below w.heap.size w w2) := BA.out.trans (HX.out.mono (by omega))
            obtain ⟨q0, q1⟩ := HQ.out w2 HX.out
            have hl1 : w.heap.size < w2.heap.size := by omega
            by_cases hlt3 : q < j
            · have hlt' : (q : Int) < j := by omega
              have hqc : q < s.ts.length := by rw [HN.out]; exact hlt3
              obtain ⟨ti, hti⟩ : ∃ ti, refsT s s.ts[q] = ti := ⟨_, rfl⟩
              have HD : Hid ((ti && (s.ts.drop (q + 1)).all (refsT s)) = yc) := by show _ = _; rw [← HT.out, allT_drop _ _ _ hqc, hti]
              have HC : Hid (Calls Try.prog 40 #[.agg #[.int .i64 sv, .slice a j c], .int .i64 (q : Int)] w2 fun e w' => e = .returned (.bool ti) ∧ Below w2.heap.size w2 w') := by
                have h := HRF.out q hqc ti hti HVT.out w2 HW.out
                rw [HN.out, HSV.out] at h
                exact h
              clear HT hti
              go_wp2_with fail
              refine HC.out.mono ?_
              rintro e w3 ⟨rfl, hb⟩
              have HX2 : Hid (Below wa.heap.size wa w3) := HX.out.trans (hb.mono (by omega))
              have HW2 : Hid (Below w.heap.size w w3) := HW.out.trans (hb.mono HW.out.size)
              clear hb HC
              cases ti with
              | false =>
                have hy : yc = false := by rw [← HD.out]; rfl
                subst hy
                have hz0 : z = 70 := by rw [← HZ3.out]; rfl
                subst hz0
                clear HZ3 HD
                go_wp2_with fail
                go_ret
                exact ⟨rfl, HW2.out⟩
              | true =>
                have HT2 : Hid ((s.ts.drop (q + 1)).all (refsT s) = yc) := by show _ = _; rw [← HD.out]; rfl
                clear HD
                go_wp2_with fail
                go_roundw
                case rel => exact ⟨q + 1, by omega, by go_num, HX2, HT2⟩
                case measure => simp [intOf]; omega
            · have hqe : q = j := by omega
              subst hqe
              have hy : yc = true := by rw [← HT.out, List.drop_eq_nil_of_le (by rw [HN.out]; exact Nat.le_refl _)]; rfl
              subst hy
              have HZ4 : Hid (fstT (s.ts.drop 0) = z) := by show _ = _; rw [← HZ3.out]; rfl
              clear HT HZ3 HTB HRF HVT
              go_wp2_with fail
              go_loopw [72] (fun s72 wr => ∃ p : Nat, p ≤ q ∧ s72 = .int .i64 p ∧ Hid (Below wa.heap.size wa wr) ∧ Hid (fstT (s.ts.drop p) = z)) (fun s72 _ => q - (intOf s72).toNat)
              case atStart => exact ⟨0, by omega, rfl, HX, HZ4⟩
              case round =>
                clear HZ4 q0 q1 HX hzz HW hl1
                obtain ⟨w4, rfl⟩ : ∃ x, x = wr := ⟨wr, rfl⟩
                obtain ⟨k, hk, rfl, HX, HT⟩ := hrel
                have hzz := HX.out.size
                have HW : Hid (Below w.heap.size w w4) := BA.out.trans (HX.out.mono (by omega))
                obtain ⟨q0, q1⟩ := HQ.out w4 HX.out
                have hl1 : w.heap.size < w4.heap.size := by omega
                by_cases hlt4 : k < q
                · have hlt' : (k : Int) < q := by omega
                  have hkc : k < s.ts.length := by rw [HN.out]; exact hlt4
                  obtain ⟨b, off, rfl, -, hb, ca, cc, ra, rc, pa, pc, -, -, -, -, c4, htb⟩ := tab_get H.out hkc
                  have HPS := Lib.hid htb.chks
                  have HD := Lib.hid (fstT_drop s.ts k hkc)
                  have hpf : s.ts[k].ck.length ≤ 17592186044416 := htb.chks.1.few
                  have HK1 := Lib.hid (fun W (hb : Below w.heap.size w W) => HKI.out (k : Int) W hb)
                  rw [tbAt_in hkc] at HK1
                  replace c4 := (HW.out.cell (p := ⟨b, off + k * 5 + 4, none⟩) hb).trans c4
                  have hbw : b < w4.heap.size := Nat.lt_of_lt_of_le hb HW.out.size
                  clear htb
                  obtain ⟨K, hK⟩ : ∃ K, kndT s.ts[k] = K := ⟨_, rfl⟩
                  obtain ⟨ps, hps⟩ : ∃ ps, s.ts[k].ck = ps := ⟨_, rfl⟩
                  rw [hK] at HK1 HD
                  rw [hps] at HPS HD hpf c4
                  obtain ⟨pn, hpn⟩ : ∃ pn, ps.length = pn := ⟨_, rfl⟩
                  have HPN := Lib.hid hpn
                  rw [hpn] at hpf c4
                  have HT2 : Hid ((if fstC K (ps.drop 0) = 0 then fstT (s.ts.drop (k + 1)) else fstC K (ps.drop 0)) = z) := by show _ = _; rw [← HT.out, HD.out]; rfl
                  obtain ⟨yt, hyt⟩ : ∃ y, fstT (s.ts.drop (k + 1)) = y := ⟨_, rfl⟩
                  have HYT := Lib.hid hyt
                  rw [hyt] at HT2
                  clear hpn HD HT hyt hK hps
                  go_wp2_with fail
                  go_loopw [82] (fun s82 wr => ∃ j : Nat, j ≤ pn ∧ s82 = .int .i64 j ∧ Hid (Below wa.heap.size wa wr) ∧ Hid ((if fstC K (ps.drop j) = 0 then yt else fstC K (ps.drop j)) = z)) (fun s82 _ => pn - (intOf s82).toNat)
                  case atStart => exact ⟨0, by omega, rfl, HX, HT2⟩
                  case round =>
                    clear HT2 q0 q1 HX hzz HW hl1 c4 hbw
                    obtain ⟨w5, rfl⟩ : ∃ x, x = wr := ⟨wr, rfl⟩
                    obtain ⟨j, hj, rfl, HX, HT⟩ := hrel
                    have hzz := HX.out.size
                    have HW : Hid (Below w.heap.size w w5) := BA.out.trans (HX.out.mono (by omega))
                    by_cases hltj : j < pn
                    · have hltj' : (j : Int) < pn := by omega
                      have hjc : j < ps.length := by rw [HPN.out]; exact hltj
                      obtain ⟨pb, po, xa, xc, rfl, -, hpb, g0, g1, g2, g3, g4, g5, g6, g7, g8, g9, g10, g11, g12, hps⟩ := HPS.out.get hjc
                      have HD := Lib.hid (fstC_drop K ps j hjc)
                      generalize ps[j] = X at HD g0 g1 g2 g3 g4 g5 g6 g7 g8 g9 g10 g11 g12 hps
                      obtain ⟨xop, xcmp, ⟨xlk, xli, ⟨xlvk, xlvn, xlvs⟩⟩, ⟨xrk, xri, ⟨xrvk, xrvn, xrvs⟩⟩, xs⟩ := X
                      simp only [PT.op, PT.cmp, PT.l, PT.r, PT.args] at g0 g1 g2 g3 g4 g5 g6 g7 g8 g9 g10 g11 g12
                      change PdS _ w xs xa xc at hps
                      have HXS := Lib.hid hps
                      obtain ⟨xn, hxn⟩ : ∃ xn, xs.length = xn := ⟨_, rfl⟩
                      have HXN := Lib.hid hxn
                      rw [hxn] at g12
                      replace g0 := (HW.out.cell (p := ⟨pb, po + j * 13, none⟩) hpb).trans g0
                      replace g1 := (HW.out.cell (p := ⟨pb, po + j * 13 + 1, none⟩) hpb).trans g1
                      replace g2 := (HW.out.cell (p := ⟨pb, po + j * 13 + 2, none⟩) hpb).trans g2
                      replace g3 := (HW.out.cell (p := ⟨pb, po + j * 13 + 3, none⟩) hpb).trans g3
                      replace g4 := (HW.out.cell (p := ⟨pb, po + j * 13 + 4, none⟩) hpb).trans g4
                      replace g5 := (HW.out.cell (p := ⟨pb, po + j * 13 + 5, none⟩) hpb).trans g5
                      replace g6 := (HW.out.cell (p := ⟨pb, po + j * 13 + 6, none⟩) hpb).trans g6
                      replace g7 := (HW.out.cell (p := ⟨pb, po + j * 13 + 7, none⟩) hpb).trans g7
                      replace g8 := (HW.out.cell (p := ⟨pb, po + j * 13 + 8, none⟩) hpb).trans g8
                      replace g9 := (HW.out.cell (p := ⟨pb, po + j * 13 + 9, none⟩) hpb).trans g9
                      replace g10 := (HW.out.cell (p := ⟨pb, po + j * 13 + 10, none⟩) hpb).trans g10
                      replace g11 := (HW.out.cell (p := ⟨pb, po + j * 13 + 11, none⟩) hpb).trans g11
                      replace g12 := (HW.out.cell (p := ⟨pb, po + j * 13 + 12, none⟩) hpb).trans g12
                      have hpbw : pb < w5.heap.size := Nat.lt_of_lt_of_le hpb HW.out.size
                      obtain ⟨er, her⟩ : ∃ er, checkP K [] (PT.mk xop xcmp ⟨xlk, xli, ⟨xlvk, xlvn, xlvs⟩⟩ ⟨xrk, xri, ⟨xrvk, xrvn, xrvs⟩⟩ xs) = er := ⟨_, rfl⟩
                      rw [her] at HD
                      obtain ⟨wb, hwb⟩ : ∃ wb, w5.alloc (.cells #[.int .i64 xop, .int .i64 xcmp, .int .i64 xlk, .int .i64 xli, .int .i64 xlvk, .int .i64 xlvn, .string xlvs, .int .i64 xrk, .int .i64 xri, .int .i64 xrvk, .int .i64 xrvn, .string xrvs, .slice xa xn xc] 77) = wb := ⟨_, rfl⟩
                      obtain ⟨bp, hbp⟩ : ∃ bp, w5.heap.size = bp := ⟨_, rfl⟩
                      have hbpl : bp < wb.heap.size := by rw [← hwb, ← hbp]; simp
                      have HXB : Hid (Below wa.heap.size wa wb) := by rw [← hwb]; exact HX.out.alloc HX.out.size _
                      have HWB : Hid (Below w.heap.size w wb) := BA.out.trans (HXB.out.mono (by omega))
                      have k0 : wb.cell? ⟨bp, 0, none⟩ = some (.int .i64 xop) := by subst hwb; subst hbp; go_simp
                      have k1 : wb.cell? ⟨bp, 1, none⟩ = some (.int .i64 xcmp) := by subst hwb; subst hbp; go_simp
                      have k2 : wb.cell? ⟨bp, 2, none⟩ = some (.int .i64 xlk) := by subst hwb; subst hbp; go_simp
                      have k3 : wb.cell? ⟨bp, 3, none⟩ = some (.int .i64 xli) := by subst hwb; subst hbp; go_simp
                      have k4 : wb.cell? ⟨bp, 4, none⟩ = some (.int .i64 xlvk) := by subst hwb; subst hbp; go_simp
                      have k5 : wb.cell? ⟨bp, 5, none⟩ = some (.int .i64 xlvn) := by subst hwb; subst hbp; go_simp
                      have k6 : wb.cell? ⟨bp, 6, none⟩ = some (.string xlvs) := by subst hwb; subst hbp; go_simp
                      have k7 : wb.cell? ⟨bp, 7, none⟩ = some (.int .i64 xrk) := by subst hwb; subst hbp; go_simp
                      have k8 : wb.cell? ⟨bp, 8, none⟩ = some (.int .i64 xri) := by subst hwb; subst hbp; go_simp
                      have k9 : wb.cell? ⟨bp, 9, none⟩ = some (.int .i64 xrvk) := by subst hwb; subst hbp; go_simp
                      have k10 : wb.cell? ⟨bp, 10, none⟩ = some (.int .i64 xrvn) := by subst hwb; subst hbp; go_simp
                      have k11 : wb.cell? ⟨bp, 11, none⟩ = some (.string xrvs) := by subst hwb; subst hbp; go_simp
                      have k12 : wb.cell? ⟨bp, 12, none⟩ = some (.slice xa xn xc) := by subst hwb; subst hbp; go_simp
                      have HKK : Hid (∀ W, Below wb.heap.size wb W → W.cell? ⟨w.heap.size, 0, none⟩ = some (.int .i64 sv) ∧ W.cell? ⟨w.heap.size, 1, none⟩ = some (.slice (some ⟨b, off, none⟩) q c) ∧ W.cell? ⟨bp, 0, none⟩ = some (.int .i64 xop) ∧ W.cell? ⟨bp, 1, none⟩ = some (.int .i64 xcmp) ∧ W.cell? ⟨bp, 2, none⟩ = some (.int .i64 xlk) ∧ W.cell? ⟨bp, 3, none⟩ = some (.int .i64 xli) ∧ W.cell? ⟨bp, 4, none⟩ = some (.int .i64 xlvk) ∧ W.cell? ⟨bp, 5, none⟩ = some (.int .i64 xlvn) ∧ W.cell? ⟨bp, 6, none⟩ = some (.string xlvs) ∧ W.cell? ⟨bp, 7, none⟩ = some (.int .i64 xrk) ∧ W.cell? ⟨bp, 8, none⟩ = some (.int .i64 xri) ∧ W.cell? ⟨bp, 9, none⟩ = some (.int .i64 xrvk) ∧ W.cell? ⟨bp, 10, none⟩ = some (.int .i64 xrvn) ∧ W.cell? ⟨bp, 11, none⟩ = some (.string xrvs) ∧ W.cell? ⟨bp, 12, none⟩ = some (.slice xa xn xc)) := fun W hb2 =>
                        ⟨(HQ.out W (HXB.out.trans (hb2.mono HXB.out.size))).1, (HQ.out W (HXB.out.trans (hb2.mono HXB.out.size))).2, (hb2.cell (p := ⟨bp, 0, none⟩) hbpl).trans k0, (hb2.cell (p := ⟨bp, 1, none⟩) hbpl).trans k1, (hb2.cell (p := ⟨bp, 2, none⟩) hbpl).trans k2, (hb2.cell (p := ⟨bp, 3, none⟩) hbpl).trans k3, (hb2.cell (p := ⟨bp, 4, none⟩) hbpl).trans k4, (hb2.cell (p := ⟨bp, 5, none⟩) hbpl).trans k5, (hb2.cell (p := ⟨bp, 6, none⟩) hbpl).trans k6, (hb2.cell (p := ⟨bp, 7, none⟩) hbpl).trans k7, (hb2.cell (p := ⟨bp, 8, none⟩) hbpl).trans k8, (hb2.cell (p := ⟨bp, 9, none⟩) hbpl).trans k9, (hb2.cell (p := ⟨bp, 10, none⟩) hbpl).trans k10, (hb2.cell (p := ⟨bp, 11, none⟩) hbpl).trans k11, (hb2.cell (p := ⟨bp, 12, none⟩) hbpl).trans k12⟩
                      clear hps hxn k0 k1 k2 k3 k4 k5 k6 k7 k8 k9 k10 k11 k12
                      go_upto_region 29 with fail
                      try rw [hwb]
                      try rw [hbp]
                      clear hwb hbp g0 g1 g2 g3 g4 g5 g6 g7 g8 g9 g10 g11 g12
                      refine wp_region_held_drew (S := fun W => W.cell? ⟨w.heap.size, 0, none⟩ = some (.int .i64 sv) ∧ W.cell? ⟨w.heap.size, 1, none⟩ = some (.slice (some ⟨b, off, none⟩) q c) ∧ W.cell? ⟨bp, 0, none⟩ = some (.int .i64 xop) ∧ W.cell? ⟨bp, 1, none⟩ = some (.int .i64 xcmp) ∧ W.cell? ⟨bp, 2, none⟩ = some (.int .i64 xlk) ∧ W.cell? ⟨bp, 3, none⟩ = some (.int .i64 xli) ∧ W.cell? ⟨bp, 4, none⟩ = some (.int .i64 xlvk) ∧ W.cell? ⟨bp, 5, none⟩ = some (.int .i64 xlvn) ∧ W.cell? ⟨bp, 6, none⟩ = some (.string xlvs) ∧ W.cell? ⟨bp, 7, none⟩ = some (.int .i64 xrk) ∧ W.cell? ⟨bp, 8, none⟩ = some (.int .i64 xri) ∧ W.cell? ⟨bp, 9, none⟩ = some (.int .i64 xrvk) ∧ W.cell? ⟨bp, 10, none⟩ = some (.int .i64 xrvn) ∧ W.cell? ⟨bp, 11, none⟩ = some (.string xrvs) ∧ W.cell? ⟨bp, 12, none⟩ = some (.slice xa xn xc)) (by kernel_rfl) (HKK.out _ (Below.refl _ _).drew) (fun hHeld => ?_)
                      obtain ⟨wd, hwd⟩ : ∃ wd, wb.drew = wd := ⟨_, rfl⟩
                      have BW : Hid (Below wb.heap.size wb wd) := by rw [← hwd]; exact (Below.refl _ _).drew
                      rw [hwd] at hHeld ⊢
                      clear hwd
                      have HC1 := Lib.hid (HK1.out wd (HWB.out.trans (BW.out.mono HWB.out.size)))
                      refine wpAnyH_takeD (i := 0) (d := 86) (v := ?_) rfl rfl (by kernel_rfl) (by kernel_rfl) (by kernel_rfl) (fun _ _ _ h => h) (Or.inl ⟨by rfl, ?_⟩) (by assumption) ?_; rotate_left
                      · intro W hSw; (try dsimp only at hSw); go_simp; (try with_reducible rfl)
                      (try simp only [List.set_cons_zero, List.set_cons_succ])
                      refine wpAnyH_takeD (i := 1) (d := 87) (v := ?_) rfl rfl (by kernel_rfl) (by kernel_rfl) (by kernel_rfl) (fun _ _ _ h => h) (Or.inl ⟨by rfl, ?_⟩) (by assumption) ?_; rotate_left
                      · intro W hSw; (try dsimp only at hSw); go_simp; (try with_reducible rfl)
                      (try simp only [List.set_cons_zero, List.set_cons_succ])
                      refine wpAnyH_takeD (i := 3) (d := 89) (v := ?_) rfl rfl (by kernel_rfl) (by kernel_rfl) (by kernel_rfl) (fun _ _ _ h => h) (Or.inl ⟨by rfl, ?_⟩) (by assumption) ?_; rotate_left
                      · intro W hSw; (try dsimp only at hSw); go_simp; (try with_reducible rfl)
                      (try simp only [List.set_cons_zero, List.set_cons_succ])
                      refine wpAnyH_ready (rs := [2]) (by kernel_rfl) (by simp) ?_
                      refine AllReadyH.cons rfl (fun K0 hK => ?_) AllReadyH.nil
                      go_simp
                      refine HC1.out.mono ?_
                      rintro e w6 ⟨kv, rfl, hko, hb6, -, hkl⟩
                      have HKV : Hid (IntsAt w6 kv K) := (intsG_own hko hkl).at
                      have B6 : Hid (Below wb.heap.size wb w6) := BW.out.trans (hb6.mono BW.out.size)
                      have hz6 := B6.out.size
                      have HW6 : Hid (Below w.heap.size w w6) := HWB.out.trans (B6.out.mono HWB.out.size)
                      have HC2 := Lib.hid (rCheck_any K [] kv (.slice none 0 0) (PT.mk xop xcmp ⟨xlk, xli, ⟨xlvk, xlvn, xlvs⟩⟩ ⟨xrk, xri, ⟨xrvk, xrvn, xrvs⟩⟩ xs) (.agg #[.int .i64 xop, .int .i64 xcmp, .int .i64 xlk, .int .i64 xli, .int .i64 xlvk, .int .i64 xlvn, .string xlvs, .int .i64 xrk, .int .i64 xri, .int .i64 xrvk, .int .i64 xrvn, .string xrvs, .slice xa xn xc]) w6 HKV.out (IntsAt.nil w6) ⟨xa, xc, by rw [← HXN.out]; rfl, (HXS.out.below HW6.out).weak fun _ _ => trivial⟩)
                      rw [her] at HC2
                      clear hHeld hko hb6 hkl HC1
                      refine hK.out _ _ (HKK.out _ B6.out) (fun hHeld => ?_)
                      clear hK K0
                      (try simp only [List.set_cons_zero, List.set_cons_succ])
                      refine wpAnyH_ready (rs := [4]) (by kernel_rfl) (by simp) ?_
                      refine AllReadyH.cons rfl (fun K0 hK => ?_) AllReadyH.nil
                      go_simp
                      refine HC2.out.mono ?_
                      rintro e w7 ⟨rfl, hb7⟩
                      have B7 : Hid (Below wb.heap.size wb w7) := B6.out.trans (hb7.mono hz6)
                      have HX7 : Hid (Below wa.heap.size wa w7) := HXB.out.trans (B7.out.mono HXB.out.size)
                      clear hHeld hb7 HC2
                      refine hK.out _ _ (HKK.out _ B7.out) (fun hHeld => ?_)
                      clear hK K0
                      (try simp only [List.set_cons_zero, List.set_cons_succ])
                      refine wpAnyH_takeD (i := 5) (d := 10) (v := ?_) rfl rfl (by kernel_rfl) (by kernel_rfl) (by kernel_rfl) (fun _ _ _ h => h) (Or.inl ⟨by rfl, ?_⟩) (by assumption) ?_; rotate_left
                      · intro W hSw; (try dsimp only at hSw); go_simp; (try with_reducible rfl)
                      (try simp only [List.set_cons_zero, List.set_cons_succ])
                      clear hHeld
                      refine wpAnyH_done (by kernel_rfl) ?_ _
                      clear her
                      by_cases he0 : er = 0
                      · have HR : Hid ((if fstC K (ps.drop (j + 1)) = 0 then yt else fstC K (ps.drop (j + 1))) = z) := by show _ = _; rw [← HT.out, HD.out, if_pos he0]
                        have e0 : (er != 0) = false := by simpa using he0
                        clear HD HT he0
                        go_wp2_with fail
                        go_roundw
                        case rel => exact ⟨j + 1, by omega, by go_num, HX7, HR⟩
                        case measure => simp [intOf]; omega
                      · have HR : Hid (z = er) := by show _ = _; rw [← HT.out, HD.out, if_neg he0, if_neg he0]
                        have e0 : (er != 0) = true := by simpa using he0
                        clear HD HT he0
                        go_wp2_with fail
                        go_ret
                        exact ⟨by rw [HR.out]; rfl, BA.out.trans (HX7.out.mono (by omega))⟩
                    · have HR : Hid (fstT (s.ts.drop (k + 1)) = z) := by show _ = _; rw [← HT.out, HYT.out, fstC_end K ps j (by rw [HPN.out]; omega)]; rfl
                      clear HT
                      go_wp2_with fail
                      go_roundw
                      case rel => exact ⟨k + 1, by omega, by go_num, HX, HR⟩
                      case measure => simp [intOf]; omega
                · have HR : Hid (z = 0) := by show _ = _; rw [← HT.out]; exact fstT_end _ _ (by rw [HN.out]; omega)
                  go_wp2_with fail
                  go_ret
                  exact ⟨by rw [HR.out]; rfl, HW.out⟩
end Go.Proofs.Ytjcbmeannhafjaa
