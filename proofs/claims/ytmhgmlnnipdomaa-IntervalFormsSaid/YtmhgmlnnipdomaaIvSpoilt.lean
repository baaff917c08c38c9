
/- The law's spoilt: a list with one thing changed (walk). -/
import Derived.Test.YtmhgmlnnipdomaaIvBlk

namespace Go.Proofs.Ytmhgmlnnipdomaa

open Go.RowKit Go.Deep

set_option maxRecDepth 100000 in
set_option maxHeartbeats 6000000 in
theorem spoilt_any (bc B : Nat) (w : World) (h : CaseOk bc B w) : Calls Try.prog 10 #[.pointer (some ⟨bc, 0, none⟩)] w (SpoiltPost bc B w) := by
  have hinfo : (Try.prog.info? 59).map (fun i => (i.zero, i.size, i.bytes)) = some (some (.agg #[.int .i64 0, .int .i64 0, .string ⟨#[]⟩, .int .i64 0, .int .i64 0, .string ⟨#[]⟩, .bool false]), 7, 72) := by kernel_rfl
  obtain ⟨i0, hi0, hz0, hz1, hz2⟩ := info_parts hinfo
  have HI := Lib.hid hi0
  have HZ0 := Lib.hid hz0
  have HZ1 := Lib.hid hz1
  have HZ2 := Lib.hid hz2
  clear hi0 hz0 hz1 hz2 hinfo
  have hbl := h.lt
  have HIV := Lib.hid (cInterval_any bc B w h)
  clear h
  go_enter Try.func10, Try.ntmps10
  go_wp2_with fail
  refine HIV.out.mono ?_
  rintro e w1 ⟨v, L, rfl, hv, ho, hl, hm, hk⟩
  obtain ⟨a1, c1, rfl⟩ := hv.shape
  have N2 : Hid (a1 = none → L.length = 0 ∧ c1 = 0) := by
    obtain ⟨a', c', e, _, _, h3, _⟩ := hv
    simp only [Value.slice.injEq, true_and] at e
    obtain ⟨rfl, rfl⟩ := e
    exact h3
  have N3 : Hid ((ivCells L).length = L.length * 7) := length_ivCells L
  have N4 : Hid (∀ p, a1 = some p → ∀ j u, (ivCells L)[j]? = some u → w1.cell? (p.add j) = some u) := ivCells_src hv rfl
  have N6 : Hid (L.length ≤ maxLen) := by show _ ≤ _; unfold maxLen; omega
  have N7 : Hid (L.length * 72 ≤ 140737488355328) := by show _ ≤ _; omega
  have M1 := Lib.hid hm
  have K1 := Lib.hid hk
  have hs1 : w.heap.size ≤ w1.heap.size := hm.size
  have hB1 : B ≤ w1.heap.size := hk.lt.2
  have HL4 := Lib.hid hl
  clear hv ho hl hm hk HIV
  have HANY : Hid (∀ W, CaseOk bc B W → Calls Try.prog 15 #[.pointer (some ⟨bc, 0, none⟩)] W (AnyPost bc B W)) := fun W h => cAny_any bc B W h
  by_cases hz : L.length = 0
  · have HZL := Lib.hid hz
    clear hz
    go_wp2_with (at_builtin; refine wpList_append_nil rfl _ _ 23 (by rfl) 59 i0 (.agg #[.int .i64 0, .int .i64 0, .string ⟨#[]⟩, .int .i64 0, .int .i64 0, .string ⟨#[]⟩, .bool false]) 7 72 Try.underlying23 HI.out HZ0.out HZ1.out HZ2.out rfl (by decide) (by rfl) a1 L.length c1 (ivCells L) (by rfl) N2.out N3.out N4.out (ivCells_one L) N6.out N7.out ?_; intro v2 w2 hown hb2; rw [HZL.out] at hown; obtain ⟨a2, c2, rfl⟩ := own_slice hown; have M2 : Hid (Mv bc w w2) := M1.out.trans (Mv.of_below hb2); have K2 : Hid (CaseOk bc B w2) := K1.out.below hb2 hB1; clear hown hb2 M1 K1 N2 N3 N4 N6 N7)
    refine (HANY.out _ K2.out).mono ?_
    rintro e w3 ⟨ak, an, as0, rfl, -, -, -, hm3, hc3⟩
    have M3 : Hid (Mv bc w w3) := M2.out.trans hm3
    have K3 := Lib.hid hc3
    clear hm3 hc3 M2 K2
    go_wp2_with fail
    refine (HANY.out _ K3.out).mono ?_
    rintro e w4 ⟨bk, bn, bs0, rfl, -, -, -, hm3, hc3⟩
    have M4 : Hid (Mv bc w w4) := M3.out.trans hm3
    have K4 := Lib.hid hc3
    clear hm3 hc3 M3 K3
    go_wp2_with fail
    refine (cBool_2 bc B w4 K4.out).mono ?_
    rintro e w5 ⟨z, rfl, hm3, hc3⟩
    have M5 : Hid (Mv bc w w5) := M4.out.trans hm3
    have K5 := Lib.hid hc3
    have hs5 : w.heap.size ≤ w5.heap.size := M5.out.size
    clear hm3 hc3 M4 K4
    go_wp2_with fail
    go_ret
    exact ⟨_, _, rfl, (iv_one w5 ⟨⟨ak, an, as0⟩, ⟨bk, bn, bs0⟩, z⟩ 59).lo hs5, M5.out.alloc _, K5.out.alloc _⟩
  · obtain ⟨n, hn⟩ : ∃ n, L.length = n := ⟨_, rfl⟩
    rw [hn] at N2 N3 N6 N7 ⊢
    have hn0 : n ≠ 0 := by omega
    have hn4 : n ≤ 4 := by have := HL4.out; omega
    have HNL := Lib.hid hn
    have e0 : ((n : Int) == 0) = false := by simpa using hn0
    have HINT : Hid (∀ W, CaseOk bc B W → Calls Try.prog 34 #[.pointer (some ⟨bc, 0, none⟩), .int .i64 n] W (IntPost bc B n W)) := fun W h => cInt_any bc B n W (by omega) (by omega) h
    have HINT7 : Hid (∀ W, CaseOk bc B W → Calls Try.prog 34 #[.pointer (some ⟨bc, 0, none⟩), .int .i64 7] W (IntPost bc B 7 W)) := fun W h => cInt_any bc B 7 W (by omega) (by omega) h
    clear hz hn HL4
    go_wp2_with (at_builtin; refine wpList_append_nil rfl _ _ 23 (by rfl) 59 i0 (.agg #[.int .i64 0, .int .i64 0, .string ⟨#[]⟩, .int .i64 0, .int .i64 0, .string ⟨#[]⟩, .bool false]) 7 72 Try.underlying23 HI.out HZ0.out HZ1.out HZ2.out rfl (by decide) (by rfl) a1 n c1 (ivCells L) (by rfl) N2.out N3.out N4.out (ivCells_one L) N6.out N7.out ?_; intro v2 w2 hown hb2; obtain ⟨a2, c2, rfl⟩ := own_slice hown; obtain ⟨g, rfl⟩ := ownIv_some hown hn0; have OW2 := Lib.hid hown; have BK2 := Lib.hid (own_blk hown HNL.out); have M2 : Hid (Mv bc w w2) := M1.out.trans (Mv.of_below hb2); have K2 : Hid (CaseOk bc B w2) := K1.out.below hb2 hB1; clear hown hb2 M1 K1 N2 N3 N4 N6 N7)
    refine (HINT.out _ K2.out).mono ?_
    rintro e w3 ⟨r, rfl, hr0, hr1, hm3, hc3⟩
    obtain ⟨i, rfl⟩ := Int.eq_ofNat_of_zero_le hr0
    have hin : i < n := by omega
    have M3 : Hid (Mv bc w w3) := M2.out.trans hm3
    have hgbc : g ≠ bc := by have := BK2.out.1; omega
    have BK3 : Hid (Blk g n w3) := BK2.out.2.2.2.mv hm3 hgbc
    have OW3 := Lib.hid (own_mv OW2.out hm3 (by omega))
    have K3 := Lib.hid hc3
    have hg : w.heap.size ≤ g := by have := BK2.out.1; omega
    have hB : B ≤ g := by have := BK2.out.1; omega
    have HC : Hid (n ≤ c2 ∧ c2 ≤ maxLen) := ⟨BK2.out.2.1, BK2.out.2.2.1⟩
    clear hm3 hc3 M2 K2 OW2 BK2 hr0 hr1 HINT
    go_wp2_with fail
    refine (HINT7.out _ K3.out).mono ?_
    rintro e w4 ⟨r, rfl, hr0, hr1, hm3, hc3⟩
    have M4 : Hid (Mv bc w w4) := M3.out.trans hm3
    have BK4 : Hid (Blk g n w4) := BK3.out.mv hm3 hgbc
    have OW4 := Lib.hid (own_mv OW3.out hm3 (by omega))
    have K4 := Lib.hid hc3
    have HFIN : Hid (∀ W, Blk g n W → ∃ L', L'.length = n ∧ IvsAt (fun b => w.heap.size ≤ b) W (.slice (some ⟨g, 0, none⟩) n c2) L') := fun W h => h.of hg HC.out.1 HC.out.2 (by omega)
    have HDONE : Hid (∀ W, Blk g n W → Mv bc w W → CaseOk bc B W → ∃ a m c L', (.slice (some ⟨g, 0, none⟩) n c2 : Value) = .slice a m c ∧ Hid (IvsAt (fun b => w.heap.size ≤ b) W (.slice a m c) L' ∧ Mv bc w W ∧ CaseOk bc B W)) := fun W h1 h2 h3 => by
      obtain ⟨L', _, h4⟩ := HFIN.out W h1
      exact ⟨_, _, _, L', rfl, h4, h2, h3⟩
    clear hm3 hc3 M3 K3 OW3 BK3 HINT7 HFIN
    go_upto_block 0 with fail
    go_cut [3] (fun s3 wx => ∃ a m c L', s3 = .slice a m c ∧ Hid (IvsAt (fun b => w.heap.size ≤ b) wx (.slice a m c) L' ∧ Mv bc w wx ∧ CaseOk bc B wx))
    case rest =>
      obtain ⟨a9, m9, c9, L9, rfl, H9⟩ := hcut
      go_wp2_with fail
      go_ret
      exact ⟨_, L9, rfl, H9.out.1, H9.out.2.1, H9.out.2.2⟩
    case first =>
      by_cases h0 : r = 0
      · subst h0
        go_wp2_with fail
        refine (HANY.out _ K4.out).mono ?_
        rintro e w5 ⟨ak, an, as0, rfl, -, -, -, hm3, hc3⟩
        have M5 : Hid (Mv bc w w5) := M4.out.trans hm3
        have BK5 : Hid (Blk g n w5) := BK4.out.mv hm3 hgbc
        have K5 := Lib.hid hc3
        obtain ⟨⟨⟨xk, xn, xs⟩, ⟨yk, yn, ys⟩, xo⟩, ⟨x0, x1, x2⟩, ⟨x3, x4, x5⟩, x6⟩ := BK5.out.at (by omega) hin
        simp only at x0 x1 x2 x3 x4 x5 x6
        have f0 : w5.frozen? ⟨g, i * 7, none⟩ = false := BK5.out.free _ (by omega)
        have f1 : w5.frozen? ⟨g, i * 7 + 1, none⟩ = false := BK5.out.free _ (by omega)
        have f2 : w5.frozen? ⟨g, i * 7 + 2, none⟩ = false := BK5.out.free _ (by omega)
        clear hm3 hc3 M4 K4 BK4 OW4 HANY
        go_wp2_with fail
        go_meet
        exact HDONE.out _ (by (repeat (first | with_reducible exact BK5.out | with_reducible refine Blk.drew ?_ | with_reducible refine Blk.setI ?_ (by omega) | with_reducible refine Blk.setS ?_ (by omega) | with_reducible refine Blk.setB ?_ (by omega)))) (by (repeat (first | with_reducible exact M5.out | with_reducible refine Mv.drew ?_ | with_reducible refine Mv.setNew ?_ hg _ _))) (by (repeat (first | with_reducible exact K5.out | with_reducible refine CaseOk.drew ?_ | with_reducible refine CaseOk.setNew ?_ hB _ _)))
      by_cases h1 : r = 1
      · subst h1
        go_wp2_with fail
        refine (HANY.out _ K4.out).mono ?_
        rintro e w5 ⟨ak, an, as0, rfl, -, -, -, hm3, hc3⟩
        have M5 : Hid (Mv bc w w5) := M4.out.trans hm3
        have BK5 : Hid (Blk g n w5) := BK4.out.mv hm3 hgbc
        have K5 := Lib.hid hc3
        obtain ⟨⟨⟨xk, xn, xs⟩, ⟨yk, yn, ys⟩, xo⟩, ⟨x0, x1, x2⟩, ⟨x3, x4, x5⟩, x6⟩ := BK5.out.at (by omega) hin
        simp only at x0 x1 x2 x3 x4 x5 x6
        have f3 : w5.frozen? ⟨g, i * 7 + 3, none⟩ = false := BK5.out.free _ (by omega)
        have f4 : w5.frozen? ⟨g, i * 7 + 4, none⟩ = false := BK5.out.free _ (by omega)
        have f5 : w5.frozen? ⟨g, i * 7 + 5, none⟩ = false := BK5.out.free _ (by omega)
        clear hm3 hc3 M4 K4 BK4 OW4 HANY
        go_wp2_with fail
        go_meet
        exact HDONE.out _ (by (repeat (first | with_reducible exact BK5.out | with_reducible refine Blk.drew ?_ | with_reducible refine Blk.setI ?_ (by omega) | with_reducible refine Blk.setS ?_ (by omega) | with_reducible refine Blk.setB ?_ (by omega)))) (by (repeat (first | with_reducible exact M5.out | with_reducible refine Mv.drew ?_ | with_reducible refine Mv.setNew ?_ hg _ _))) (by (repeat (first | with_reducible exact K5.out | with_reducible refine CaseOk.drew ?_ | with_reducible refine CaseOk.setNew ?_ hB _ _)))
      by_cases h2 : r = 2
      · subst h2
        obtain ⟨⟨⟨xk, xn, xs⟩, ⟨yk, yn, ys⟩, xo⟩, ⟨x0, x1, x2⟩, ⟨x3, x4, x5⟩, x6⟩ := BK4.out.at (by omega) hin
        simp only at x0 x1 x2 x3 x4 x5 x6
        have f6 : w4.frozen? ⟨g, i * 7 + 6, none⟩ = false := BK4.out.free _ (by omega)
        go_wp2_with fail
        go_meet
        exact HDONE.out _ (by (repeat (first | with_reducible exact BK4.out | with_reducible refine Blk.drew ?_ | with_reducible refine Blk.setI ?_ (by omega) | with_reducible refine Blk.setS ?_ (by omega) | with_reducible refine Blk.setB ?_ (by omega)))) (by (repeat (first | with_reducible exact M4.out | with_reducible refine Mv.drew ?_ | with_reducible refine Mv.setNew ?_ hg _ _))) (by (repeat (first | with_reducible exact K4.out | with_reducible refine CaseOk.drew ?_ | with_reducible refine CaseOk.setNew ?_ hB _ _)))
      by_cases h3 : r = 3
      · subst h3
        obtain ⟨⟨⟨xk, xn, xs⟩, ⟨yk, yn, ys⟩, xo⟩, ⟨x0, x1, x2⟩, ⟨x3, x4, x5⟩, x6⟩ := BK4.out.at (by omega) hin
        simp only at x0 x1 x2 x3 x4 x5 x6
        have A1 : Hid (n + 1 ≤ maxLen) := by show _ ≤ _; unfold maxLen; omega
        have A2 : Hid ((n + 1) * 72 ≤ 140737488355328) := by show _ ≤ _; omega
        have hs14 : w1.heap.size ≤ w4.heap.size := by have := BK4.out.lt; have := (OW4.out.lt g rfl).1; omega
        have A3 : Hid (∀ O : Obj, w1.heap.size ≤ (w4.alloc O).heap.size) := fun O => by simp only [World.size_alloc]; omega
        have A4 : Hid (∀ t (j : Nat) (u : Value), ([.int .i64 xk, .int .i64 xn, .string xs, .int .i64 yk, .int .i64 yn, .string ys, .bool xo] : List Value)[j]? = some u → (w4.alloc (.cells #[.int .i64 xk, .int .i64 xn, .string xs, .int .i64 yk, .int .i64 yn, .string ys, .bool xo] t)).cell? ((⟨w4.heap.size, 0, none⟩ : Addr).add j) = some u) := by
          intro t j u hj
          rw [add0]
          refine (World.cell?_alloc_mark w4 #[.int .i64 xk, .int .i64 xn, .string xs, .int .i64 yk, .int .i64 yn, .string ys, .bool xo] t (0, 0) j).trans ?_
          rw [← hj]; simp
        have A5 : Hid (∀ u ∈ ([.int .i64 xk, .int .i64 xn, .string xs, .int .i64 yk, .int .i64 yn, .string ys, .bool xo] : List Value), u.oneCell' = true) := by
          intro u hu
          simp only [List.mem_cons, List.not_mem_nil, or_false] at hu
          rcases hu with rfl | rfl | rfl | rfl | rfl | rfl | rfl <;> rfl
        go_wp2_with (at_builtin; refine wpList_append_own _ (by rfl) _ _ 23 (by rfl) w1.heap.size 59 i0 (.agg #[.int .i64 0, .int .i64 0, .string ⟨#[]⟩, .int .i64 0, .int .i64 0, .string ⟨#[]⟩, .bool false]) 7 72 Try.underlying23 HI.out HZ0.out HZ1.out HZ2.out rfl (by decide) (.slice (some ⟨g, 0, none⟩) n c2) n (ivCells L) (by rfl) (OW4.out.alloc _) ⟨w4.heap.size, 0, none⟩ 1 1 [.int .i64 xk, .int .i64 xn, .string xs, .int .i64 yk, .int .i64 yn, .string ys, .bool xo] (by rfl) (by rfl) (A4.out _) A5.out A1.out A2.out (A3.out _) ?_; intro v' w6 hown2 hgr _; obtain ⟨a6, c6, rfl⟩ := own_slice hown2; have HOWN := Lib.hid hown2; have HGR := Lib.hid hgr; clear hown2 hgr A1 A2 A3 A4 A5)
        go_meet
        refine ⟨a6, n + 1, c6, L ++ [⟨⟨xk, xn, xs⟩, ⟨yk, yn, ys⟩, xo⟩], rfl, ?_, ?_, ?_⟩
        · have h1 : w6.ownsRow w1.heap.size 59 7 (.slice a6 (n + 1) c6) (L ++ [(⟨⟨xk, xn, xs⟩, ⟨yk, yn, ys⟩, xo⟩ : IV)]).length (ivCells (L ++ [⟨⟨xk, xn, xs⟩, ⟨yk, yn, ys⟩, xo⟩])) := by
            rw [ivCells_snoc, List.length_append, HNL.out]; exact HOWN.out
          exact (ivs_own h1 (by rw [List.length_append, HNL.out]; simp only [List.length_cons, List.length_nil]; omega)).lo hs1
        · exact (M4.out.alloc _).grown HGR.out (Nat.le_refl _) (fun k e => by simp only [Value.ownBlock, Option.some.injEq] at e; omega)
        · exact (K4.out.alloc _).grown HGR.out (Nat.le_refl _) (fun k e => by simp only [Value.ownBlock, Option.some.injEq] at e; omega)
      by_cases h4 : r = 4
      · subst h4
        have hn14 : n = 1 ∨ n = 2 ∨ n = 3 ∨ n = 4 := by omega
        obtain ⟨⟨⟨xk, xn, xs⟩, ⟨yk, yn, ys⟩, xo⟩, ⟨x0, x1, x2⟩, ⟨x3, x4, x5⟩, x6⟩ := BK4.out.at (by omega) (show 0 < n by omega)
        simp only at x0 x1 x2 x3 x4 x5 x6
        have f0 : w4.frozen? ⟨g, 0, none⟩ = false := BK4.out.free _ (by omega)
        have f1 : w4.frozen? ⟨g, 1, none⟩ = false := BK4.out.free _ (by omega)
        have f2 : w4.frozen? ⟨g, 2, none⟩ = false := BK4.out.free _ (by omega)
        have f3 : w4.frozen? ⟨g, 3, none⟩ = false := BK4.out.free _ (by omega)
        have f4 : w4.frozen? ⟨g, 4, none⟩ = false := BK4.out.free _ (by omega)
        have f5 : w4.frozen? ⟨g, 5, none⟩ = false := BK4.out.free _ (by omega)
        have f6 : w4.frozen? ⟨g, 6, none⟩ = false := BK4.out.free _ (by omega)
        rcases hn14 with rfl | rfl | rfl | rfl
        · obtain ⟨⟨⟨uk, un, us⟩, ⟨vk, vn, vs⟩, uo⟩, ⟨u0, u1, u2⟩, ⟨u3, u4, u5⟩, u6⟩ := BK4.out.at (by omega) (show 0 < 1 by omega)
          have c0 : w4.cell? ⟨g, 0, none⟩ = some (.int .i64 xk) := x0
          have c1 : w4.cell? ⟨g, 1, none⟩ = some (.int .i64 xn) := x1
          have c2 : w4.cell? ⟨g, 2, none⟩ = some (.string xs) := x2
          have c3 : w4.cell? ⟨g, 3, none⟩ = some (.int .i64 yk) := x3
          have c4 : w4.cell? ⟨g, 4, none⟩ = some (.int .i64 yn) := x4
          have c5 : w4.cell? ⟨g, 5, none⟩ = some (.string ys) := x5
          have c6 : w4.cell? ⟨g, 6, none⟩ = some (.bool xo) := x6
          clear x0 x1 x2 x3 x4 x5 x6
          clear u0 u1 u2 u3 u4 u5 u6
          go_wp2_with fail
          go_region
          all_goals
            go_wp2_with fail
            go_meet
            exact HDONE.out _ (by (repeat (first | with_reducible exact BK4.out | with_reducible refine Blk.drew ?_ | with_reducible refine Blk.setI ?_ (by omega) | with_reducible refine Blk.setS ?_ (by omega) | with_reducible refine Blk.setB ?_ (by omega)))) (by (repeat (first | with_reducible exact M4.out | with_reducible refine Mv.drew ?_ | with_reducible refine Mv.setNew ?_ hg _ _))) (by (repeat (first | with_reducible exact K4.out | with_reducible refine CaseOk.drew ?_ | with_reducible refine CaseOk.setNew ?_ hB _ _)))
        · obtain ⟨⟨⟨uk, un, us⟩, ⟨vk, vn, vs⟩, uo⟩, ⟨u0, u1, u2⟩, ⟨u3, u4, u5⟩, u6⟩ := BK4.out.at (by omega) (show 1 < 2 by omega)
          have c0 : w4.cell? ⟨g, 0, none⟩ = some (.int .i64 xk) := x0
          have c1 : w4.cell? ⟨g, 1, none⟩ = some (.int .i64 xn) := x1
          have c2 : w4.cell? ⟨g, 2, none⟩ = some (.string xs) := x2
          have c3 : w4.cell? ⟨g, 3, none⟩ = some (.int .i64 yk) := x3
          have c4 : w4.cell? ⟨g, 4, none⟩ = some (.int .i64 yn) := x4
          have c5 : w4.cell? ⟨g, 5, none⟩ = some (.string ys) := x5
          have c6 : w4.cell? ⟨g, 6, none⟩ = some (.bool xo) := x6
          clear x0 x1 x2 x3 x4 x5 x6
          have d0 : w4.cell? ⟨g, 7, none⟩ = some (.int .i64 uk) := u0
          have g0 : w4.frozen? ⟨g, 7, none⟩ = false := BK4.out.free _ (by omega)
          have d1 : w4.cell? ⟨g, 8, none⟩ = some (.int .i64 un) := u1
          have g1 : w4.frozen? ⟨g, 8, none⟩ = false := BK4.out.free _ (by omega)
          have d2 : w4.cell? ⟨g, 9, none⟩ = some (.string us) := u2
          have g2 : w4.frozen? ⟨g, 9, none⟩ = false := BK4.out.free _ (by omega)
          have d3 : w4.cell? ⟨g, 10, none⟩ = some (.int .i64 vk) := u3
          have g3 : w4.frozen? ⟨g, 10, none⟩ = false := BK4.out.free _ (by omega)
          have d4 : w4.cell? ⟨g, 11, none⟩ = some (.int .i64 vn) := u4
          have g4 : w4.frozen? ⟨g, 11, none⟩ = false := BK4.out.free _ (by omega)
          have d5 : w4.cell? ⟨g, 12, none⟩ = some (.string vs) := u5
          have g5 : w4.frozen? ⟨g, 12, none⟩ = false := BK4.out.free _ (by omega)
          have d6 : w4.cell? ⟨g, 13, none⟩ = some (.bool uo) := u6
          have g6 : w4.frozen? ⟨g, 13, none⟩ = false := BK4.out.free _ (by omega)
          clear u0 u1 u2 u3 u4 u5 u6
          go_wp2_with fail
          go_region
          all_goals
            go_wp2_with fail
            go_meet
            exact HDONE.out _ (by (repeat (first | with_reducible exact BK4.out | with_reducible refine Blk.drew ?_ | with_reducible refine Blk.setI ?_ (by omega) | with_reducible refine Blk.setS ?_ (by omega) | with_reducible refine Blk.setB ?_ (by omega)))) (by (repeat (first | with_reducible exact M4.out | with_reducible refine Mv.drew ?_ | with_reducible refine Mv.setNew ?_ hg _ _))) (by (repeat (first | with_reducible exact K4.out | with_reducible refine CaseOk.drew ?_ | with_reducible refine CaseOk.setNew ?_ hB _ _)))
        · obtain ⟨⟨⟨uk, un, us⟩, ⟨vk, vn, vs⟩, uo⟩, ⟨u0, u1, u2⟩, ⟨u3, u4, u5⟩, u6⟩ := BK4.out.at (by omega) (show 2 < 3 by omega)
          have c0 : w4.cell? ⟨g, 0, none⟩ = some (.int .i64 xk) := x0
          have c1 : w4.cell? ⟨g, 1, none⟩ = some (.int .i64 xn) := x1
          have c2 : w4.cell? ⟨g, 2, none⟩ = some (.string xs) := x2
          have c3 : w4.cell? ⟨g, 3, none⟩ = some (.int .i64 yk) := x3
          have c4 : w4.cell? ⟨g, 4, none⟩ = some (.int .i64 yn) := x4
          have c5 : w4.cell? ⟨g, 5, none⟩ = some (.string ys) := x5
          have c6 : w4.cell? ⟨g, 6, none⟩ = some (.bool xo) := x6
          clear x0 x1 x2 x3 x4 x5 x6
          have d0 : w4.cell? ⟨g, 14, none⟩ = some (.int .i64 uk) := u0
          have g0 : w4.frozen? ⟨g, 14, none⟩ = false := BK4.out.free _ (by omega)
          have d1 : w4.cell? ⟨g, 15, none⟩ = some (.int .i64 un) := u1
          have g1 : w4.frozen? ⟨g, 15, none⟩ = false := BK4.out.free _ (by omega)
          have d2 : w4.cell? ⟨g, 16, none⟩ = some (.string us) := u2
          have g2 : w4.frozen? ⟨g, 16, none⟩ = false := BK4.out.free _ (by omega)
          have d3 : w4.cell? ⟨g, 17, none⟩ = some (.int .i64 vk) := u3
          have g3 : w4.frozen? ⟨g, 17, none⟩ = false := BK4.out.free _ (by omega)
          have d4 : w4.cell? ⟨g, 18, none⟩ = some (.int .i64 vn) := u4
          have g4 : w4.frozen? ⟨g, 18, none⟩ = false := BK4.out.free _ (by omega)
          have d5 : w4.cell? ⟨g, 19, none⟩ = some (.string vs) := u5
          have g5 : w4.frozen? ⟨g, 19, none⟩ = false := BK4.out.free _ (by omega)
          have d6 : w4.cell? ⟨g, 20, none⟩ = some (.bool uo) := u6
          have g6 : w4.frozen? ⟨g, 20, none⟩ = false := BK4.out.free _ (by omega)
          clear u0 u1 u2 u3 u4 u5 u6
          go_wp2_with fail
          go_region
          all_goals
            go_wp2_with fail
            go_meet
            exact HDONE.out _ (by (repeat (first | with_reducible exact BK4.out | with_reducible refine Blk.drew ?_ | with_reducible refine Blk.setI ?_ (by omega) | with_reducible refine Blk.setS ?_ (by omega) | with_reducible refine Blk.setB ?_ (by omega)))) (by (repeat (first | with_reducible exact M4.out | with_reducible refine Mv.drew ?_ | with_reducible refine Mv.setNew ?_ hg _ _))) (by (repeat (first | with_reducible exact K4.out | with_reducible refine CaseOk.drew ?_ | with_reducible refine CaseOk.setNew ?_ hB _ _)))
        · obtain ⟨⟨⟨uk, un, us⟩, ⟨vk, vn, vs⟩, uo⟩, ⟨u0, u1, u2⟩, ⟨u3, u4, u5⟩, u6⟩ := BK4.out.at (by omega) (show 3 < 4 by omega)
          have c0 : w4.cell? ⟨g, 0, none⟩ = some (.int .i64 xk) := x0
          have c1 : w4.cell? ⟨g, 1, none⟩ = some (.int .i64 xn) := x1
          have c2 : w4.cell? ⟨g, 2, none⟩ = some (.string xs) := x2
          have c3 : w4.cell? ⟨g, 3, none⟩ = some (.int .i64 yk) := x3
          have c4 : w4.cell? ⟨g, 4, none⟩ = some (.int .i64 yn) := x4
          have c5 : w4.cell? ⟨g, 5, none⟩ = some (.string ys) := x5
          have c6 : w4.cell? ⟨g, 6, none⟩ = some (.bool xo) := x6
          clear x0 x1 x2 x3 x4 x5 x6
          have d0 : w4.cell? ⟨g, 21, none⟩ = some (.int .i64 uk) := u0
          have g0 : w4.frozen? ⟨g, 21, none⟩ = false := BK4.out.free _ (by omega)
          have d1 : w4.cell? ⟨g, 22, none⟩ = some (.int .i64 un) := u1
          have g1 : w4.frozen? ⟨g, 22, none⟩ = false := BK4.out.free _ (by omega)
          have d2 : w4.cell? ⟨g, 23, none⟩ = some (.string us) := u2
          have g2 : w4.frozen? ⟨g, 23, none⟩ = false := BK4.out.free _ (by omega)
          have d3 : w4.cell? ⟨g, 24, none⟩ = some (.int .i64 vk) := u3
          have g3 : w4.frozen? ⟨g, 24, none⟩ = false := BK4.out.free _ (by omega)
          have d4 : w4.cell? ⟨g, 25, none⟩ = some (.int .i64 vn) := u4
          have g4 : w4.frozen? ⟨g, 25, none⟩ = false := BK4.out.free _ (by omega)
          have d5 : w4.cell? ⟨g, 26, none⟩ = some (.string vs) := u5
          have g5 : w4.frozen? ⟨g, 26, none⟩ = false := BK4.out.free _ (by omega)
          have d6 : w4.cell? ⟨g, 27, none⟩ = some (.bool uo) := u6
          have g6 : w4.frozen? ⟨g, 27, none⟩ = false := BK4.out.free _ (by omega)
          clear u0 u1 u2 u3 u4 u5 u6
          go_wp2_with fail
          go_region
          all_goals
            go_wp2_with fail
            go_meet
            exact HDONE.out _ (by (repeat (first | with_reducible exact BK4.out | with_reducible refine Blk.drew ?_ | with_reducible refine Blk.setI ?_ (by omega) | with_reducible refine Blk.setS ?_ (by omega) | with_reducible refine Blk.setB ?_ (by omega)))) (by (repeat (first | with_reducible exact M4.out | with_reducible refine Mv.drew ?_ | with_reducible refine Mv.setNew ?_ hg _ _))) (by (repeat (first | with_reducible exact K4.out | with_reducible refine CaseOk.drew ?_ | with_reducible refine CaseOk.setNew ?_ hB _ _)))
      by_cases h5 : r = 5
      · subst h5
        obtain ⟨⟨⟨xk, xn, xs⟩, ⟨yk, yn, ys⟩, xo⟩, ⟨x0, x1, x2⟩, ⟨x3, x4, x5⟩, x6⟩ := BK4.out.at (by omega) hin
        simp only at x0 x1 x2 x3 x4 x5 x6
        have f1 : w4.frozen? ⟨g, i * 7 + 1, none⟩ = false := BK4.out.free _ (by omega)
        go_wp2_with fail
        go_meet
        exact HDONE.out _ (by (repeat (first | with_reducible exact BK4.out | with_reducible refine Blk.drew ?_ | with_reducible refine Blk.setI ?_ (by omega) | with_reducible refine Blk.setS ?_ (by omega) | with_reducible refine Blk.setB ?_ (by omega)))) (by (repeat (first | with_reducible exact M4.out | with_reducible refine Mv.drew ?_ | with_reducible refine Mv.setNew ?_ hg _ _))) (by (repeat (first | with_reducible exact K4.out | with_reducible refine CaseOk.drew ?_ | with_reducible refine CaseOk.setNew ?_ hB _ _)))
      obtain ⟨⟨⟨xk, xn, xs⟩, ⟨yk, yn, ys⟩, xo⟩, ⟨x0, x1, x2⟩, ⟨x3, x4, x5⟩, x6⟩ := BK4.out.at (by omega) hin
      simp only at x0 x1 x2 x3 x4 x5 x6
      have f0 : w4.frozen? ⟨g, i * 7, none⟩ = false := BK4.out.free _ (by omega)
      have n0 : (r == 0) = false := by simpa using h0
      have n1 : (r == 1) = false := by simpa using h1
      have n2 : (r == 2) = false := by simpa using h2
      have n3 : (r == 3) = false := by simpa using h3
      have n4 : (r == 4) = false := by simpa using h4
      have n5 : (r == 5) = false := by simpa using h5
      go_wp2_with fail
      go_meet
      exact HDONE.out _ (by (repeat (first | with_reducible exact BK4.out | with_reducible refine Blk.drew ?_ | with_reducible refine Blk.setI ?_ (by omega) | with_reducible refine Blk.setS ?_ (by omega) | with_reducible refine Blk.setB ?_ (by omega)))) (by (repeat (first | with_reducible exact M4.out | with_reducible refine Mv.drew ?_ | with_reducible refine Mv.setNew ?_ hg _ _))) (by (repeat (first | with_reducible exact K4.out | with_reducible refine CaseOk.drew ?_ | with_reducible refine CaseOk.setNew ?_ hB _ _)))
end Go.Proofs.Ytmhgmlnnipdomaa
