/- Law SchemaChecks. -/
import Derived.Test.YtjcbmeannhafjaaScSpoil
import Derived.Test.YtjcbmeannhafjaaScRRefs
import Derived.Test.YtjcbmeannhafjaaCPlain
import Derived.Test.YtjcbmeannhafjaaPdNew
import Derived.Test.YtjcbmeannhafjaaScBegun
namespace Go.Proofs.Ytjcbmeannhafjaa
open Go.RowKit Go.Deep

theorem tabsB_case {n : Nat} {id : Int} (hn : n = 2 ∨ n = 3 ∨ n = 4) (hid : id = 4 ∨ id = 5) (rs1 rs2 rs3 : List RF) (ck : List PT) : tabsB [] ([tP, tT id rs1 ck, tM rs2, tA id rs3].take n) = true := by
  have h := plnL_sound hn hid
  rcases hn with rfl | rfl | rfl <;> exact h
theorem check_ok {C Q : List Int} {p : PT} (h1 : okKs C = true) (h2 : okKs Q = true) (h3 : vldP C Q p = true) (h4 : smallP p = true) : checkP C Q p = 0 := by
  unfold checkP; rw [h1, h2, h3, h4]; rfl
theorem fstT_zero : ∀ {L : List TB}, (∀ t ∈ L, fstC (kndT t) t.ck = 0) → fstT L = 0
  | [], _ => rfl
  | t :: L, h => by
    rw [fstT, h t List.mem_cons_self, if_pos rfl]
    exact fstT_zero fun t ht => h t (List.mem_cons_of_mem _ ht)
theorem case_ref {n : Nat} {id ver : Int} {rs1 rs2 rs3 : List RF} {ck : List PT} (h : SOk n id ver rs1 rs2 rs3 ck) {t : TB} (ht : t ∈ (cSC n id ver rs1 rs2 rs3 ck).ts) {r : RF} (hr : r ∈ t.rs) : refB (cSC n id ver rs1 rs2 rs3 ck) t.cs r = true := by
  rcases cSC_mem h ht with rfl | rfl | rfl | ⟨rfl, h4⟩
  · simp [tP] at hr
  · rcases h.r1 with rfl | rfl
    · simp [tT] at hr
    · obtain rfl : r = ⟨[1], 0⟩ := by simpa [tT] using hr
      rcases h.cases with rfl | rfl | rfl <;> rcases h.hid with rfl | rfl <;> rfl
  · rcases h.r2 with rfl | rfl
    · simp [tM] at hr
    · obtain rfl : r = ⟨[0], 0⟩ := by simpa [tM] using hr
      rcases h.cases with rfl | rfl | rfl <;> rcases h.hid with rfl | rfl <;> rfl
  · subst h4
    rcases h.r3 with rfl | rfl
    · simp [tA] at hr
    · obtain rfl : r = ⟨[0], 1⟩ := by simpa [tA] using hr
      rcases h.hid with rfl | rfl <;> rfl
/-- A case's schema is valid. -/
theorem case_check {n : Nat} {id ver : Int} {rs1 rs2 rs3 : List RF} {ck : List PT} (h : SOk n id ver rs1 rs2 rs3 ck) : checkS (cSC n id ver rs1 rs2 rs3 ck) = 0 := by
  have hn4 := h.n4
  have hl := cSC_len hn4 id ver rs1 rs2 rs3 ck
  have hsm : smallS (cSC n id ver rs1 rs2 rs3 ck) = true := by
    unfold smallS
    rw [Bool.and_eq_true]
    refine ⟨by rw [hl]; simp; omega, ?_⟩
    rw [List.all_eq_true]
    intro t ht
    have h1 : rs1.length ≤ 1 := by rcases h.r1 with e | e <;> rw [e] <;> simp
    have h2 : rs2.length ≤ 1 := by rcases h.r2 with e | e <;> rw [e] <;> simp
    have h3 : rs3.length ≤ 1 := by rcases h.r3 with e | e <;> rw [e] <;> simp
    have h4 : ck.length ≤ 1 := by rcases h.hc with e | ⟨p, e, _⟩ <;> rw [e] <;> simp
    rcases cSC_mem h ht with rfl | rfl | rfl | ⟨rfl, _⟩
    · rfl
    · show (decide (4 ≤ 8) && (decide (rs1.length ≤ 4) && decide (ck.length ≤ 4))) = true
      rw [decide_eq_true (show rs1.length ≤ 4 by omega), decide_eq_true (show ck.length ≤ 4 by omega)]; rfl
    · show (decide (2 ≤ 8) && (decide (rs2.length ≤ 4) && decide (0 ≤ 4))) = true
      rw [decide_eq_true (show rs2.length ≤ 4 by omega)]; rfl
    · show (decide (1 ≤ 8) && (decide (rs3.length ≤ 4) && decide (0 ≤ 4))) = true
      rw [decide_eq_true (show rs3.length ≤ 4 by omega)]; rfl
  have href : (cSC n id ver rs1 rs2 rs3 ck).ts.all (refsT (cSC n id ver rs1 rs2 rs3 ck)) = true := by
    rw [List.all_eq_true]
    intro t ht
    unfold refsT
    rw [List.all_eq_true]
    intro r hr
    exact case_ref h ht hr
  have hso : soundS (cSC n id ver rs1 rs2 rs3 ck) = true := by
    unfold soundS
    have hv := h.hv
    rw [href, show (cSC n id ver rs1 rs2 rs3 ck).ver = ver from rfl, show tabsB [] (cSC n id ver rs1 rs2 rs3 ck).ts = true from tabsB_case h.cases h.hid rs1 rs2 rs3 ck, decide_eq_true hv.1, decide_eq_true (show ver ≤ 1000 by omega)]; rfl
  unfold checkS
  rw [hsm, hso, if_neg (by simp), if_neg (by simp)]
  have hck : ∀ t ∈ (cSC n id ver rs1 rs2 rs3 ck).ts, fstC (kndT t) t.ck = 0 := fun t ht => by
    rcases cSC_mem h ht with rfl | rfl | rfl | ⟨rfl, _⟩
    · rfl
    · show fstC [id, 4, 5, 3] ck = 0
      rcases h.hc with e | ⟨p, e, h1, h2⟩
      · rw [e]; rfl
      · rw [e]
        unfold fstC fstC
        have hok : okKs [id, 4, 5, 3] = true := by rcases h.hid with rfl | rfl <;> decide
        rw [check_ok hok (by decide) h1 h2, if_pos rfl]
    · rfl
    · rfl
  exact fstT_zero hck
theorem case_names {n : Nat} {id ver : Int} {rs1 rs2 rs3 : List RF} {ck : List PT} (h : SOk n id ver rs1 rs2 rs3 ck) : SzS 4 (cSC n id ver rs1 rs2 rs3 ck) := by
  have hl := cSC_len h.n4 id ver rs1 rs2 rs3 ck
  have h1 : rs1.length ≤ 1 := by rcases h.r1 with e | e <;> rw [e] <;> simp
  have h2 : rs2.length ≤ 1 := by rcases h.r2 with e | e <;> rw [e] <;> simp
  have h3 : rs3.length ≤ 1 := by rcases h.r3 with e | e <;> rw [e] <;> simp
  have h4 : ck.length ≤ 1 := by rcases h.hc with e | ⟨p, e, _⟩ <;> rw [e] <;> simp
  have hm : ∀ k, k ≤ 8 → k ≤ maxLen := fun k hk => by unfold maxLen; omega
  refine ⟨by rw [hl]; have := h.n2; omega, by rw [hl]; exact h.n4, fun t ht => ?_⟩
  rcases cSC_mem h ht with rfl | rfl | rfl | ⟨rfl, _⟩ <;> refine ⟨by simp [tP, tT, tM, tA], by simp only [tP, tT, tM, tA, List.length_nil]; omega, by simp only [tP, tT, tM, tA, List.length_nil]; omega, hm _ (show (_ : Nat) ≤ 8 by simp [tP, tT, tM, tA, ByteArray.size]), fun c hc => ?_⟩ <;> simp only [tP, tT, tM, tA, List.mem_cons, List.not_mem_nil, or_false] at hc
  · rcases hc with rfl | rfl <;> exact hm _ (show (_ : Nat) ≤ 8 by simp [ByteArray.size])
  · rcases hc with rfl | rfl | rfl | rfl <;> exact hm _ (show (_ : Nat) ≤ 8 by simp [ByteArray.size])
  · rcases hc with rfl | rfl <;> exact hm _ (show (_ : Nat) ≤ 8 by simp [ByteArray.size])
  · rcases hc with rfl; exact hm _ (show (_ : Nat) ≤ 8 by simp [ByteArray.size])

set_option linter.unusedSimpArgs false in
set_option maxRecDepth 100000 in
set_option maxHeartbeats 16000000 in
theorem schecks_walk (cv : Value) (cn : Nat) (rwv : Value) (RS : SC) (w : World) (hcv : BytesAt w cv cn) (hrs : Sc (fun _ => True) w rwv RS) (hrn : namesT RS.ts) : Calls Try.prog 3 #[cv, rwv] w fun e w' => e = .returned (.bool true) ∧ Below w.heap.size w w' := by
  have HRS := Lib.hid hrs
  have HRN := Lib.hid hrn
  obtain ⟨rtv, rfl, hrsl⟩ := hrs
  obtain ⟨rta, rtc, rfl, -⟩ := hrsl.shape
  obtain ⟨rn, hrn2⟩ : ∃ rn, RS.ts.length = rn := ⟨_, rfl⟩
  obtain ⟨rv, hrv⟩ : ∃ rv, RS.ver = rv := ⟨_, rfl⟩
  rw [hrn2, hrv] at HRS ⊢
  obtain ⟨wa, hwa⟩ : ∃ wa, w.alloc (.cells #[.int .i64 rv, .slice rta rn rtc] 25) = wa := ⟨_, rfl⟩
  have BA : Hid (Below w.heap.size w wa) := by rw [← hwa]; exact (Below.refl _ _).alloc (Nat.le_refl _) _
  have hza : wa.heap.size = w.heap.size + 1 := by rw [← hwa]; simp
  have r0 : wa.cell? ⟨w.heap.size, 0, none⟩ = some (.int .i64 rv) := by subst hwa; go_simp
  have r1 : wa.cell? ⟨w.heap.size, 1, none⟩ = some (.slice rta rn rtc) := by subst hwa; go_simp
  have HN := Lib.hid (cNew_90 cv cn wa (hcv.below BA.out))
  obtain ⟨sa, sc, rfl, _⟩ := hcv
  have HBG : Hid (∀ W, Calls Try.prog 10 #[] W fun e w' => e = .returned (.bool true) ∧ Below W.heap.size W w') := begun7_any
  clear hrsl hrn hrn2 hrv
  go_enter Try.func3, Try.ntmps3
  go_wp2_with fail
  try rw [hwa]
  clear hwa
  refine HN.out.mono ?_
  rintro e w1 ⟨bc, rfl, hb1, hbc, hok⟩
  have hlt : bc < w1.heap.size := hok.lt.1
  have B1 : Hid (Below wa.heap.size wa w1) := hb1
  have hs1 := hb1.size
  have HP := Lib.hid (cSchema_any bc w1.heap.size w1 hok)
  clear hb1 hok HN
  go_wp2_with fail
  refine HP.out.mono ?_
  rintro e w2 ⟨lo, sb, tb, n, id, ver, rs1, rs2, rs3, ck, rfl, hsok, hsi⟩
  have hn4 : n ≤ 4 := hsok.n4
  have hlo1 : w1.heap.size ≤ lo := hsi.hlo.1
  have htb := hsi.htb
  have hlo2 : lo ≤ w2.heap.size := by omega
  have HSO := Lib.hid hsok
  have HSI := Lib.hid hsi
  have hs2 := hsi.mv.size
  have HSC : Hid (∀ W, Mv bc w2 W → Sc (fun b => lo ≤ b) W (.agg #[.int .i64 ver, .slice (some ⟨tb, 0, none⟩) n 4]) (cSC n id ver rs1 rs2 rs3 ck)) := fun W hm => (HSI.out.sc hn4).mv hm (by omega)
  obtain ⟨w3, hw3⟩ : ∃ w3, w2.alloc (.cells #[.int .i64 ver, .slice (some ⟨tb, 0, none⟩) n 4] 25) = w3 := ⟨_, rfl⟩
  obtain ⟨b6, hb6⟩ : ∃ b6, w2.heap.size = b6 := ⟨_, rfl⟩
  have hg6 : w2.heap.size ≤ b6 := by omega
  have hh6 : b6 ≤ w2.heap.size := by omega
  have hs3 : w3.heap.size = b6 + 1 := by rw [← hw3, ← hb6]; simp
  have M3 : Hid (Mv bc w2 w3) := by rw [← hw3]; exact (Mv.refl _ _).alloc _
  have O3 : Hid (CaseOk bc w1.heap.size w3) := by rw [← hw3]; exact hsi.ok.alloc _
  have x0 : w3.cell? ⟨b6, 0, none⟩ = some (.int .i64 ver) := by subst hw3; subst hb6; go_simp
  have x1 : w3.cell? ⟨b6, 1, none⟩ = some (.slice (some ⟨tb, 0, none⟩) n 4) := by subst hw3; subst hb6; go_simp
  have h6c : b6 ≠ bc := by omega
  have h6l : b6 < w3.heap.size := by omega
  have HSP := Lib.hid (cSpoilS_any bc w1.heap.size lo 4 (by omega) (by omega) _ _ w3 O3.out (by omega) (HSC.out w3 M3.out) (case_names HSO.out))
  have HW3 := Lib.hid hw3
  have HB6 := Lib.hid hb6
  clear hsok hsi HP hw3 hb6 htb
  go_wp2_with fail
  rw [HW3.out, HB6.out]
  clear HW3
  refine HSP.out.mono ?_
  rintro e w4 ⟨vx, sx, rfl, hsc, hsz, hm4, ho4⟩
  have HSX0 := Lib.hid hsc
  have HZX := Lib.hid hsz
  have hs4 := hm4.size
  have HM4 := Lib.hid hm4
  have M4 : Hid (Mv bc w2 w4) := M3.out.trans hm4
  obtain ⟨txv, rfl, hslx⟩ := hsc
  obtain ⟨xa, xc, rfl, -⟩ := hslx.shape
  obtain ⟨xn, hxn⟩ : ∃ xn, sx.ts.length = xn := ⟨_, rfl⟩
  obtain ⟨xv, hxv⟩ : ∃ xv, sx.ver = xv := ⟨_, rfl⟩
  rw [hxn, hxv] at HSX0 ⊢
  obtain ⟨w5, hw5⟩ : ∃ w5, w4.alloc (.cells #[.int .i64 xv, .slice xa xn xc] 25) = w5 := ⟨_, rfl⟩
  obtain ⟨b7, hb7⟩ : ∃ b7, w4.heap.size = b7 := ⟨_, rfl⟩
  have hg7 : w4.heap.size ≤ b7 := by omega
  have hh7 : b7 ≤ w4.heap.size := by omega
  have hs5 : w5.heap.size = b7 + 1 := by rw [← hw5, ← hb7]; simp
  have M5 : Hid (Mv bc w4 w5) := by rw [← hw5]; exact (Mv.refl _ _).alloc _
  have O5 : Hid (CaseOk bc w1.heap.size w5) := by rw [← hw5]; exact ho4.alloc _
  have y0 : w5.cell? ⟨b7, 0, none⟩ = some (.int .i64 xv) := by subst hw5; subst hb7; go_simp
  have y1 : w5.cell? ⟨b7, 1, none⟩ = some (.slice xa xn xc) := by subst hw5; subst hb7; go_simp
  have HSX : Hid (∀ W, Mv bc w4 W → Sc (fun b => lo ≤ b) W (.agg #[.int .i64 xv, .slice xa xn xc]) sx) := fun W hm => HSX0.out.mv hm (by omega)
  have h7c : b7 ≠ bc := by omega
  have h7l : b7 < w5.heap.size := by omega
  have HSP2 := Lib.hid (cSpoilS_any bc w1.heap.size lo 13 (by omega) (by omega) _ _ w5 O5.out (by omega) (HSX.out w5 M5.out) HZX.out)
  have HW5 := Lib.hid hw5
  have HB7 := Lib.hid hb7
  clear hslx hm4 ho4 hw5 hb7 hxn hxv HSX0 HSP hsz
  go_wp2_with fail
  rw [HW5.out, HB7.out]
  clear HW5
  refine HSP2.out.mono ?_
  rintro e w6 ⟨vy, sy, rfl, hsc, hsz, hm6, ho6⟩
  have HSY0 := Lib.hid hsc
  have HZY := Lib.hid hsz
  have hs6 := hm6.size
  have HM6 := Lib.hid hm6
  obtain ⟨tyv, rfl, hsly⟩ := hsc
  obtain ⟨ya, yc, rfl, -⟩ := hsly.shape
  obtain ⟨yn, hyn⟩ : ∃ yn, sy.ts.length = yn := ⟨_, rfl⟩
  obtain ⟨yv, hyv⟩ : ∃ yv, sy.ver = yv := ⟨_, rfl⟩
  rw [hyn, hyv] at HSY0 ⊢
  obtain ⟨w7, hw7⟩ : ∃ w7, w6.alloc (.cells #[.int .i64 yv, .slice ya yn yc] 25) = w7 := ⟨_, rfl⟩
  obtain ⟨b8, hb8⟩ : ∃ b8, w6.heap.size = b8 := ⟨_, rfl⟩
  have hg8 : w6.heap.size ≤ b8 := by omega
  have hh8 : b8 ≤ w6.heap.size := by omega
  have hs7 : w7.heap.size = b8 + 1 := by rw [← hw7, ← hb8]; simp
  have B67 : Hid (Below w6.heap.size w6 w7) := by rw [← hw7]; exact (Below.refl _ _).alloc (Nat.le_refl _) _
  have z0 : w7.cell? ⟨b8, 0, none⟩ = some (.int .i64 yv) := by subst hw7; subst hb8; go_simp
  have z1 : w7.cell? ⟨b8, 1, none⟩ = some (.slice ya yn yc) := by subst hw7; subst hb8; go_simp
  have M46 : Hid (Mv bc w4 w6) := M5.out.trans hm6
  have M26 : Hid (Mv bc w2 w6) := M4.out.trans M46.out
  have M67 : Hid (Mv bc w6 w7) := Mv.of_below B67.out
  have BR : Hid (Below wa.heap.size wa w7) := B1.out.trans ((HSI.out.mv.trans (M26.out.trans M67.out)).below (B := wa.heap.size) (by omega) (by omega))
  have HSY : Hid (∀ W, Below w7.heap.size w7 W → Sc (fun b => lo ≤ b) W (.agg #[.int .i64 yv, .slice ya yn yc]) sy) := fun W hb => (HSY0.out.mv M67.out (by omega)).below hb
  have HSX7 : Hid (∀ W, Below w7.heap.size w7 W → Sc (fun b => lo ≤ b) W (.agg #[.int .i64 xv, .slice xa xn xc]) sx) := fun W hb => (HSX.out w7 (M46.out.trans M67.out)).below hb
  have HSC7 : Hid (∀ W, Below w7.heap.size w7 W → Sc (fun b => lo ≤ b) W (.agg #[.int .i64 ver, .slice (some ⟨tb, 0, none⟩) n 4]) (cSC n id ver rs1 rs2 rs3 ck)) := fun W hb => (HSC.out w7 (M26.out.trans M67.out)).below hb
  have HRS7 : Hid (∀ W, Below w7.heap.size w7 W → Sc (fun _ => True) W (.agg #[.int .i64 rv, .slice rta rn rtc]) RS) := fun W hb => HRS.out.below (BA.out.trans ((BR.out.trans (hb.mono (by omega))).mono (by omega)))
  have HK : Hid (∀ W, Below w7.heap.size w7 W → W.cell? ⟨w.heap.size, 0, none⟩ = some (.int .i64 rv) ∧ W.cell? ⟨w.heap.size, 1, none⟩ = some (.slice rta rn rtc) ∧ W.cell? ⟨b6, 0, none⟩ = some (.int .i64 ver) ∧ W.cell? ⟨b6, 1, none⟩ = some (.slice (some ⟨tb, 0, none⟩) n 4) ∧ W.cell? ⟨b7, 0, none⟩ = some (.int .i64 xv) ∧ W.cell? ⟨b7, 1, none⟩ = some (.slice xa xn xc) ∧ W.cell? ⟨b8, 0, none⟩ = some (.int .i64 yv) ∧ W.cell? ⟨b8, 1, none⟩ = some (.slice ya yn yc)) := fun W hb =>
    ⟨((BR.out.trans (hb.mono (by omega))).cell (p := ⟨w.heap.size, 0, none⟩) (show w.heap.size < _ by omega)).trans r0, ((BR.out.trans (hb.mono (by omega))).cell (p := ⟨w.heap.size, 1, none⟩) (show w.heap.size < _ by omega)).trans r1,
     (hb.cell (p := ⟨b6, 0, none⟩) (show b6 < _ by omega)).trans (((M46.out.trans M67.out).cell (p := ⟨b6, 0, none⟩) (show b6 < _ by omega) h6c).trans ((Mv.cell HM4.out (p := ⟨b6, 0, none⟩) h6l h6c).trans x0)), (hb.cell (p := ⟨b6, 1, none⟩) (show b6 < _ by omega)).trans (((M46.out.trans M67.out).cell (p := ⟨b6, 1, none⟩) (show b6 < _ by omega) h6c).trans ((Mv.cell HM4.out (p := ⟨b6, 1, none⟩) h6l h6c).trans x1)),
     (hb.cell (p := ⟨b7, 0, none⟩) (show b7 < _ by omega)).trans (((HM6.out.trans M67.out).cell (p := ⟨b7, 0, none⟩) h7l h7c).trans y0), (hb.cell (p := ⟨b7, 1, none⟩) (show b7 < _ by omega)).trans (((HM6.out.trans M67.out).cell (p := ⟨b7, 1, none⟩) h7l h7c).trans y1),
     (hb.cell (p := ⟨b8, 0, none⟩) (show b8 < _ by omega)).trans z0, (hb.cell (p := ⟨b8, 1, none⟩) (show b8 < _ by omega)).trans z1⟩
  have BF : Hid (Below w.heap.size w w7) := BA.out.trans (BR.out.mono (by omega))
  obtain ⟨cx, hcx⟩ : ∃ cx, checkS sx = cx := ⟨_, rfl⟩
  obtain ⟨cy, hcy⟩ : ∃ cy, checkS sy = cy := ⟨_, rfl⟩
  obtain ⟨cr, hcr⟩ : ∃ cr, checkS RS = cr := ⟨_, rfl⟩
  have F1 : Hid (∀ W, Below w7.heap.size w7 W → Calls Try.prog 11 #[.agg #[.int .i64 ver, .slice (some ⟨tb, 0, none⟩) n 4]] W fun e w' => e = .returned (.int .i64 0) ∧ Below W.heap.size W w') := fun W hb => by
    have h := sCheck_any _ _ W (HSC7.out W hb) (case_names HSO.out).names
    rw [case_check HSO.out] at h; exact h
  have F2 : Hid (∀ W, Below w7.heap.size w7 W → Calls Try.prog 11 #[.agg #[.int .i64 xv, .slice xa xn xc]] W fun e w' => e = .returned (.int .i64 cx) ∧ Below W.heap.size W w') := fun W hb => by
    have h := sCheck_any _ _ W (HSX7.out W hb) HZX.out.names
    rw [hcx] at h; exact h
  have F3 : Hid (∀ W, Below w7.heap.size w7 W → Calls Try.prog 12 #[.agg #[.int .i64 xv, .slice xa xn xc]] W fun e w' => e = .returned (.int .i64 cx) ∧ Below W.heap.size W w') := fun W hb => by
    have h := rCheckS_any _ _ W (HSX7.out W hb)
    rw [hcx] at h; exact h
  have F4 : Hid (∀ W, Below w7.heap.size w7 W → Calls Try.prog 11 #[.agg #[.int .i64 yv, .slice ya yn yc]] W fun e w' => e = .returned (.int .i64 cy) ∧ Below W.heap.size W w') := fun W hb => by
    have h := sCheck_any _ _ W (HSY.out W hb) HZY.out.names
    rw [hcy] at h; exact h
  have F5 : Hid (∀ W, Below w7.heap.size w7 W → Calls Try.prog 12 #[.agg #[.int .i64 yv, .slice ya yn yc]] W fun e w' => e = .returned (.int .i64 cy) ∧ Below W.heap.size W w') := fun W hb => by
    have h := rCheckS_any _ _ W (HSY.out W hb)
    rw [hcy] at h; exact h
  have F6 : Hid (∀ W, Below w7.heap.size w7 W → Calls Try.prog 11 #[.agg #[.int .i64 rv, .slice rta rn rtc]] W fun e w' => e = .returned (.int .i64 cr) ∧ Below W.heap.size W w') := fun W hb => by
    have h := sCheck_any _ _ W (HRS7.out W hb) HRN.out
    rw [hcr] at h; exact h
  have F7 : Hid (∀ W, Below w7.heap.size w7 W → Calls Try.prog 12 #[.agg #[.int .i64 rv, .slice rta rn rtc]] W fun e w' => e = .returned (.int .i64 cr) ∧ Below W.heap.size W w') := fun W hb => by
    have h := rCheckS_any _ _ W (HRS7.out W hb)
    rw [hcr] at h; exact h
  have HW7 := Lib.hid hw7
  have HB8 := Lib.hid hb8
  clear hsly hm6 ho6 hw7 hb8 hyn hyv HSY0 HSP2 hsz hcx hcy hcr r0 r1 x0 x1 y0 y1 z0 z1 HSX HSC HSY HSX7 HSC7 HRS7 HRS HSO HSI HZX HZY HRN M3 M4 M5 M46 M26 M67 O3 O5 B1 BR B67 HB6 HB7 HM4 HM6
  go_upto_region 5 with fail
  try rw [HW7.out]
  try rw [HB8.out]
  clear HW7 HB8
  refine wp_region_held_drew (S := fun W => W.cell? ⟨w.heap.size, 0, none⟩ = some (.int .i64 rv) ∧ W.cell? ⟨w.heap.size, 1, none⟩ = some (.slice rta rn rtc) ∧ W.cell? ⟨b6, 0, none⟩ = some (.int .i64 ver) ∧ W.cell? ⟨b6, 1, none⟩ = some (.slice (some ⟨tb, 0, none⟩) n 4) ∧ W.cell? ⟨b7, 0, none⟩ = some (.int .i64 xv) ∧ W.cell? ⟨b7, 1, none⟩ = some (.slice xa xn xc) ∧ W.cell? ⟨b8, 0, none⟩ = some (.int .i64 yv) ∧ W.cell? ⟨b8, 1, none⟩ = some (.slice ya yn yc)) (by kernel_rfl) (HK.out _ (Below.refl _ _).drew) (fun hHeld => ?_)
  obtain ⟨wd, hwd⟩ : ∃ wd, w7.drew = wd := ⟨_, rfl⟩
  have BW : Hid (Below w7.heap.size w7 wd) := by rw [← hwd]; exact (Below.refl _ _).drew
  rw [hwd] at hHeld ⊢
  clear hwd
  refine wpAnyH_ready (rs := [0]) (by kernel_rfl) (by simp) ?_
  refine AllReadyH.cons rfl (fun K hK => ?_) AllReadyH.nil
  go_simp
  go_at_call 10
  refine (HBG.out wd).mono ?_
  rintro e wc0 ⟨rfl, hg⟩
  clear hHeld
  replace BW := Lib.hid (below_go BW.out hg)
  clear hg
  refine hK.out _ _ (HK.out _ BW.out) (fun hHeld => ?_)
  clear hK K
  (try simp only [List.set_cons_zero, List.set_cons_succ])
  refine wpAnyH_takeD (i := 1) (d := 20) (v := ?_) rfl rfl (by kernel_rfl) (by kernel_rfl) (by kernel_rfl) (fun _ _ _ h => h) (Or.inl ⟨by rfl, ?_⟩) (by assumption) ?_; rotate_left
  · intro W hSw; (try dsimp only at hSw); go_simp; (try with_reducible rfl)
  (try simp only [List.set_cons_zero, List.set_cons_succ])
  refine wpAnyH_takeD (i := 2) (d := 21) (v := ?_) rfl rfl (by kernel_rfl) (by kernel_rfl) (by kernel_rfl) (fun _ _ _ h => h) (Or.inl ⟨by rfl, ?_⟩) (by assumption) ?_; rotate_left
  · intro W hSw; (try dsimp only at hSw); go_simp; (try with_reducible rfl)
  (try simp only [List.set_cons_zero, List.set_cons_succ])
  refine wpAnyH_ready (rs := [3]) (by kernel_rfl) (by simp) ?_
  refine AllReadyH.cons rfl (fun K hK => ?_) AllReadyH.nil
  go_simp
  go_at_call 11
  refine (F1.out _ BW.out).mono ?_
  rintro e wc1 ⟨rfl, hg⟩
  clear hHeld
  replace BW := Lib.hid (below_go BW.out hg)
  clear hg
  refine hK.out _ _ (HK.out _ BW.out) (fun hHeld => ?_)
  clear hK K
  (try simp only [List.set_cons_zero, List.set_cons_succ])
  refine wpAnyH_takeD (i := 4) (d := 23) (v := ?_) rfl rfl (by kernel_rfl) (by kernel_rfl) (by kernel_rfl) (fun _ _ _ h => h) (Or.inl ⟨by rfl, ?_⟩) (by assumption) ?_; rotate_left
  · intro W hSw; (try dsimp only at hSw); go_simp; (try with_reducible rfl)
  (try simp only [List.set_cons_zero, List.set_cons_succ])
  refine wpAnyH_takeD (i := 5) (d := 24) (v := ?_) rfl rfl (by kernel_rfl) (by kernel_rfl) (by kernel_rfl) (fun _ _ _ h => h) (Or.inl ⟨by rfl, ?_⟩) (by assumption) ?_; rotate_left
  · intro W hSw; (try dsimp only at hSw); go_simp; (try with_reducible rfl)
  (try simp only [List.set_cons_zero, List.set_cons_succ])
  refine wpAnyH_takeD (i := 6) (d := 25) (v := ?_) rfl rfl (by kernel_rfl) (by kernel_rfl) (by kernel_rfl) (fun _ _ _ h => h) (Or.inl ⟨by rfl, ?_⟩) (by assumption) ?_; rotate_left
  · intro W hSw; (try dsimp only at hSw); go_simp; (try with_reducible rfl)
  (try simp only [List.set_cons_zero, List.set_cons_succ])
  refine wpAnyH_takeD (i := 7) (d := 26) (v := ?_) rfl rfl (by kernel_rfl) (by kernel_rfl) (by kernel_rfl) (fun _ _ _ h => h) (Or.inl ⟨by rfl, ?_⟩) (by assumption) ?_; rotate_left
  · intro W hSw; (try dsimp only at hSw); go_simp; (try with_reducible rfl)
  (try simp only [List.set_cons_zero, List.set_cons_succ])
  refine wpAnyH_takeD (i := 9) (d := 28) (v := ?_) rfl rfl (by kernel_rfl) (by kernel_rfl) (by kernel_rfl) (fun _ _ _ h => h) (Or.inl ⟨by rfl, ?_⟩) (by assumption) ?_; rotate_left
  · intro W hSw; (try dsimp only at hSw); go_simp; (try with_reducible rfl)
  (try simp only [List.set_cons_zero, List.set_cons_succ])
  refine wpAnyH_ready (rs := [8]) (by kernel_rfl) (by simp) ?_
  refine AllReadyH.cons rfl (fun K hK => ?_) AllReadyH.nil
  go_simp
  go_at_call 11
  refine (F2.out _ BW.out).mono ?_
  rintro e wc2 ⟨rfl, hg⟩
  clear hHeld
  replace BW := Lib.hid (below_go BW.out hg)
  clear hg
  refine hK.out _ _ (HK.out _ BW.out) (fun hHeld => ?_)
  clear hK K
  (try simp only [List.set_cons_zero, List.set_cons_succ])
  refine wpAnyH_ready (rs := [10]) (by kernel_rfl) (by simp) ?_
  refine AllReadyH.cons rfl (fun K hK => ?_) AllReadyH.nil
  go_simp
  go_at_call 12
  refine (F3.out _ BW.out).mono ?_
  rintro e wc3 ⟨rfl, hg⟩
  clear hHeld
  replace BW := Lib.hid (below_go BW.out hg)
  clear hg
  refine hK.out _ _ (HK.out _ BW.out) (fun hHeld => ?_)
  clear hK K
  (try simp only [List.set_cons_zero, List.set_cons_succ])
  refine wpAnyH_takeD (i := 11) (d := 30) (v := ?_) rfl rfl (by kernel_rfl) (by kernel_rfl) (by kernel_rfl) (fun _ _ _ h => h) (Or.inl ⟨by rfl, ?_⟩) (by assumption) ?_; rotate_left
  · intro W hSw; (try dsimp only at hSw); go_simp; (try with_reducible rfl)
  (try simp only [List.set_cons_zero, List.set_cons_succ])
  refine wpAnyH_takeD (i := 12) (d := 31) (v := ?_) rfl rfl (by kernel_rfl) (by kernel_rfl) (by kernel_rfl) (fun _ _ _ h => h) (Or.inl ⟨by rfl, ?_⟩) (by assumption) ?_; rotate_left
  · intro W hSw; (try dsimp only at hSw); go_simp; (try with_reducible rfl)
  (try simp only [List.set_cons_zero, List.set_cons_succ])
  refine wpAnyH_takeD (i := 13) (d := 32) (v := ?_) rfl rfl (by kernel_rfl) (by kernel_rfl) (by kernel_rfl) (fun _ _ _ h => h) (Or.inl ⟨by rfl, ?_⟩) (by assumption) ?_; rotate_left
  · intro W hSw; (try dsimp only at hSw); go_simp; (try with_reducible rfl)
  (try simp only [List.set_cons_zero, List.set_cons_succ])
  refine wpAnyH_takeD (i := 14) (d := 33) (v := ?_) rfl rfl (by kernel_rfl) (by kernel_rfl) (by kernel_rfl) (fun _ _ _ h => h) (Or.inl ⟨by rfl, ?_⟩) (by assumption) ?_; rotate_left
  · intro W hSw; (try dsimp only at hSw); go_simp; (try with_reducible rfl)
  (try simp only [List.set_cons_zero, List.set_cons_succ])
  refine wpAnyH_takeD (i := 16) (d := 35) (v := ?_) rfl rfl (by kernel_rfl) (by kernel_rfl) (by kernel_rfl) (fun _ _ _ h => h) (Or.inl ⟨by rfl, ?_⟩) (by assumption) ?_; rotate_left
  · intro W hSw; (try dsimp only at hSw); go_simp; (try with_reducible rfl)
  (try simp only [List.set_cons_zero, List.set_cons_succ])
  refine wpAnyH_ready (rs := [15]) (by kernel_rfl) (by simp) ?_
  refine AllReadyH.cons rfl (fun K hK => ?_) AllReadyH.nil
  go_simp
  go_at_call 11
  refine (F4.out _ BW.out).mono ?_
  rintro e wc4 ⟨rfl, hg⟩
  clear hHeld
  replace BW := Lib.hid (below_go BW.out hg)
  clear hg
  refine hK.out _ _ (HK.out _ BW.out) (fun hHeld => ?_)
  clear hK K
  (try simp only [List.set_cons_zero, List.set_cons_succ])
  refine wpAnyH_ready (rs := [17]) (by kernel_rfl) (by simp) ?_
  refine AllReadyH.cons rfl (fun K hK => ?_) AllReadyH.nil
  go_simp
  go_at_call 12
  refine (F5.out _ BW.out).mono ?_
  rintro e wc5 ⟨rfl, hg⟩
  clear hHeld
  replace BW := Lib.hid (below_go BW.out hg)
  clear hg
  refine hK.out _ _ (HK.out _ BW.out) (fun hHeld => ?_)
  clear hK K
  (try simp only [List.set_cons_zero, List.set_cons_succ])
  refine wpAnyH_takeD (i := 18) (d := 37) (v := ?_) rfl rfl (by kernel_rfl) (by kernel_rfl) (by kernel_rfl) (fun _ _ _ h => h) (Or.inl ⟨by rfl, ?_⟩) (by assumption) ?_; rotate_left
  · intro W hSw; (try dsimp only at hSw); go_simp; (try with_reducible rfl)
  (try simp only [List.set_cons_zero, List.set_cons_succ])
  refine wpAnyH_takeD (i := 19) (d := 38) (v := ?_) rfl rfl (by kernel_rfl) (by kernel_rfl) (by kernel_rfl) (fun _ _ _ h => h) (Or.inl ⟨by rfl, ?_⟩) (by assumption) ?_; rotate_left
  · intro W hSw; (try dsimp only at hSw); go_simp; (try with_reducible rfl)
  (try simp only [List.set_cons_zero, List.set_cons_succ])
  refine wpAnyH_takeD (i := 20) (d := 39) (v := ?_) rfl rfl (by kernel_rfl) (by kernel_rfl) (by kernel_rfl) (fun _ _ _ h => h) (Or.inl ⟨by rfl, ?_⟩) (by assumption) ?_; rotate_left
  · intro W hSw; (try dsimp only at hSw); go_simp; (try with_reducible rfl)
  (try simp only [List.set_cons_zero, List.set_cons_succ])
  refine wpAnyH_takeD (i := 21) (d := 40) (v := ?_) rfl rfl (by kernel_rfl) (by kernel_rfl) (by kernel_rfl) (fun _ _ _ h => h) (Or.inl ⟨by rfl, ?_⟩) (by assumption) ?_; rotate_left
  · intro W hSw; (try dsimp only at hSw); go_simp; (try with_reducible rfl)
  (try simp only [List.set_cons_zero, List.set_cons_succ])
  refine wpAnyH_takeD (i := 23) (d := 42) (v := ?_) rfl rfl (by kernel_rfl) (by kernel_rfl) (by kernel_rfl) (fun _ _ _ h => h) (Or.inl ⟨by rfl, ?_⟩) (by assumption) ?_; rotate_left
  · intro W hSw; (try dsimp only at hSw); go_simp; (try with_reducible rfl)
  (try simp only [List.set_cons_zero, List.set_cons_succ])
  refine wpAnyH_ready (rs := [22]) (by kernel_rfl) (by simp) ?_
  refine AllReadyH.cons rfl (fun K hK => ?_) AllReadyH.nil
  go_simp
  go_at_call 11
  refine (F6.out _ BW.out).mono ?_
  rintro e wc6 ⟨rfl, hg⟩
  clear hHeld
  replace BW := Lib.hid (below_go BW.out hg)
  clear hg
  refine hK.out _ _ (HK.out _ BW.out) (fun hHeld => ?_)
  clear hK K
  (try simp only [List.set_cons_zero, List.set_cons_succ])
  refine wpAnyH_ready (rs := [24]) (by kernel_rfl) (by simp) ?_
  refine AllReadyH.cons rfl (fun K hK => ?_) AllReadyH.nil
  go_simp
  go_at_call 12
  refine (F7.out _ BW.out).mono ?_
  rintro e wc7 ⟨rfl, hg⟩
  clear hHeld
  replace BW := Lib.hid (below_go BW.out hg)
  clear hg
  refine hK.out _ _ (HK.out _ BW.out) (fun hHeld => ?_)
  clear hK K
  (try simp only [List.set_cons_zero, List.set_cons_succ])
  refine wpAnyH_takeD (i := 25) (d := 44) (v := ?_) rfl rfl (by kernel_rfl) (by kernel_rfl) (by kernel_rfl) (fun _ _ _ h => h) (Or.inl ⟨by rfl, ?_⟩) (by assumption) ?_; rotate_left
  · intro W hSw; (try dsimp only at hSw); go_simp; (try with_reducible rfl)
  (try simp only [List.set_cons_zero, List.set_cons_succ])
  refine wpAnyH_takeD (i := 26) (d := 45) (v := ?_) rfl rfl (by kernel_rfl) (by kernel_rfl) (by kernel_rfl) (fun _ _ _ h => h) (Or.inl ⟨by rfl, ?_⟩) (by assumption) ?_; rotate_left
  · intro W hSw; (try dsimp only at hSw); go_simp; (try with_reducible rfl)
  (try simp only [List.set_cons_zero, List.set_cons_succ])
  refine wpAnyH_takeD (i := 27) (d := 4) (v := ?_) rfl rfl (by kernel_rfl) (by kernel_rfl) (by kernel_rfl) (fun _ _ _ h => h) (Or.inl ⟨by rfl, ?_⟩) (by assumption) ?_; rotate_left
  · intro W hSw; (try dsimp only at hSw); go_simp; (try with_reducible rfl)
  (try simp only [List.set_cons_zero, List.set_cons_succ])
  clear hHeld
  refine wpAnyH_done (by kernel_rfl) ?_ _
  go_wp2_with fail
  go_ret
  exact ⟨rfl, below_go BF.out BW.out⟩
end Go.Proofs.Ytjcbmeannhafjaa
