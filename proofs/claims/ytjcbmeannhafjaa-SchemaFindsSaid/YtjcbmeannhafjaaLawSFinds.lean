/- Law SchemaFinds. -/
import Derived.Test.YtjcbmeannhafjaaScSpoil
import Derived.Test.YtjcbmeannhafjaaScKey
import Derived.Test.YtjcbmeannhafjaaScRKinds
import Derived.Test.YtjcbmeannhafjaaPdNew
import Derived.Test.YtjcbmeannhafjaaScBegun
namespace Go.Proofs.Ytjcbmeannhafjaa
open Go.RowKit Go.Deep

theorem case_szs {n : Nat} {id ver : Int} {rs1 rs2 rs3 : List RF} {ck : List PT} (h : SOk n id ver rs1 rs2 rs3 ck) : SzS 4 (cSC n id ver rs1 rs2 rs3 ck) := by
  have hl := cSC_len h.n4 id ver rs1 rs2 rs3 ck
  have h1 : rs1.length ≤ 1 := by rcases h.r1 with e | e <;> rw [e] <;> simp
  have h2 : rs2.length ≤ 1 := by rcases h.r2 with e | e <;> rw [e] <;> simp
  have h3 : rs3.length ≤ 1 := by rcases h.r3 with e | e <;> rw [e] <;> simp
  have h4 : ck.length ≤ 1 := by rcases h.hc with e | ⟨p, e, _⟩ <;> rw [e] <;> simp
  have hm : ∀ k, k ≤ 8 → k ≤ maxLen := fun k hk => by unfold maxLen; omega
  refine ⟨by rw [hl]; have := h.n2; omega, by rw [hl]; exact h.n4, fun t ht => ?_⟩
  rcases cSC_mem h ht with rfl | rfl | rfl | ⟨rfl, _⟩ <;> refine ⟨by simp [tP, tT, tM, tA], by simp only [tP, tT, tM, tA, List.length_nil]; omega, by simp only [tP, tT, tM, tA, List.length_nil]; omega, hm _ (show (_ : Nat) ≤ 8 by simp [tP, tT, tM, tA, ByteArray.size]), fun c hc => ?_⟩ <;> simp only [tP, tT, tM, tA, List.mem_cons, List.not_mem_nil, or_false] at hc
  · rcases hc with rfl | rfl <;> exact hm _ (show (_ : Nat) ≤ 8 by simp [ByteArray.size])
  · rcases hc with rfl | rfl | rfl | rfl <;> exact hm _ (show (_ : Nat) ≤ 8 by simp [ByteArray.size])
  · rcases hc with rfl | rfl <;> exact hm _ (show (_ : Nat) ≤ 8 by simp [ByteArray.size])
  · rcases hc with rfl; exact hm _ (show (_ : Nat) ≤ 8 by simp [ByteArray.size])
theorem blwN2 {B : Nat} {a w : World} (h : Below B a w) (n : Nat) : Below B a (w.drewN n) := h.trans ⟨rfl, rfl, rfl, Nat.le_refl _, fun _ _ => rfl⟩
/-- A schema's two cells, and that it reads as a schema wherever c's block alone has changed. -/
def SchAt (bc : Nat) (w0 : World) (b o : Nat) : Prop := ∃ (P : Nat → Prop) (v : Int) (ta : Option Addr) (tn tc : Nat) (s : SC), w0.cell? ⟨b, o, none⟩ = some (.int .i64 v) ∧ w0.cell? ⟨b, o + 1, none⟩ = some (.slice ta tn tc) ∧ ∀ W, Mv bc w0 W → Sc P W (.agg #[.int .i64 v, .slice ta tn tc]) s

set_option linter.unusedSimpArgs false in
set_option maxRecDepth 100000 in
set_option maxHeartbeats 16000000 in
theorem sfinds_walk (cv : Value) (cn : Nat) (rwv : Value) (RS : SC) (name : ByteArray) (ti : Int) (ra : Option Addr) (rn2 rc2 : Nat) (RL : List V) (w : World) (hcv : BytesAt w cv cn) (hrs : Sc (fun _ => True) w rwv RS) (hrv : RowAt w (.slice ra rn2 rc2) RL) (hrc : rn2 ≤ rc2) : Calls Try.prog 5 #[cv, rwv, .string name, .int .i64 ti, .slice ra rn2 rc2] w fun e w' => e = .returned (.bool true) ∧ Below w.heap.size w w' := by
  have HRS := Lib.hid hrs
  have HRV := Lib.hid hrv
  obtain ⟨rtv, rfl, hrsl⟩ := hrs
  obtain ⟨rta, rtc, rfl, -⟩ := hrsl.shape
  obtain ⟨rn, hrn2⟩ : ∃ rn, RS.ts.length = rn := ⟨_, rfl⟩
  obtain ⟨rv, hrv2⟩ : ∃ rv, RS.ver = rv := ⟨_, rfl⟩
  rw [hrn2, hrv2] at HRS ⊢
  obtain ⟨wa, hwa⟩ : ∃ wa, w.alloc (.cells #[.int .i64 rv, .slice rta rn rtc] 25) = wa := ⟨_, rfl⟩
  have BA : Hid (Below w.heap.size w wa) := by rw [← hwa]; exact (Below.refl _ _).alloc (Nat.le_refl _) _
  have hza : wa.heap.size = w.heap.size + 1 := by rw [← hwa]; simp
  have r0 : wa.cell? ⟨w.heap.size, 0, none⟩ = some (.int .i64 rv) := by subst hwa; go_simp
  have r1 : wa.cell? ⟨w.heap.size, 1, none⟩ = some (.slice rta rn rtc) := by subst hwa; go_simp
  have HN := Lib.hid (cNew_90 cv cn wa (hcv.below BA.out))
  obtain ⟨sa, sc, rfl, _⟩ := hcv
  have HBG : Hid (∀ W, Calls Try.prog 10 #[] W fun e w' => e = .returned (.bool true) ∧ Below W.heap.size W w') := begun7_any
  clear hrsl hrn2 hrv2 hrv
  go_enter Try.func5, Try.ntmps5
  go_wp2_with fail
  try rw [hwa]
  clear hwa
  refine HN.out.mono ?_
  rintro e w1 ⟨bc, rfl, hb1, hbc, hok⟩
  have hlt : bc < w1.heap.size := hok.lt.1
  have B1 : Hid (Below wa.heap.size wa w1) := hb1
  have hs1 := hb1.size
  have HP := Lib.hid (cSchema_any bc w1.heap.size w1 hok)
  clear hb1 hok HN
  go_wp2_with fail
  refine HP.out.mono ?_
  rintro e w2 ⟨lo, sb, tb, n, id, ver, rs1, rs2, rs3, ck, rfl, hsok, hsi⟩
  have hn4 : n ≤ 4 := hsok.n4
  have hlo1 : w1.heap.size ≤ lo := hsi.hlo.1
  have htb := hsi.htb
  have hlo2 : lo ≤ w2.heap.size := by omega
  have HSO := Lib.hid hsok
  have HSI := Lib.hid hsi
  have hs2 := hsi.mv.size
  have HSC : Hid (∀ W, Mv bc w2 W → Sc (fun b => lo ≤ b) W (.agg #[.int .i64 ver, .slice (some ⟨tb, 0, none⟩) n 4]) (cSC n id ver rs1 rs2 rs3 ck)) := fun W hm => (HSI.out.sc hn4).mv hm (by omega)
  have HRSW : Hid (∀ W, Mv bc w2 W → Below w.heap.size w W) := fun W hm => BA.out.trans ((B1.out.trans ((HSI.out.mv.trans hm).below (B := wa.heap.size) (by omega) (by omega))).mono (by omega))
  obtain ⟨w3, hw3⟩ : ∃ w3, w2.alloc (.cells #[.int .i64 ver, .slice (some ⟨tb, 0, none⟩) n 4] 25) = w3 := ⟨_, rfl⟩
  obtain ⟨b6, hb6⟩ : ∃ b6, w2.heap.size = b6 := ⟨_, rfl⟩
  have hg6 : w2.heap.size ≤ b6 := by omega
  have hs3 : w3.heap.size = b6 + 1 := by rw [← hw3, ← hb6]; simp
  have M3 : Hid (Mv bc w2 w3) := by rw [← hw3]; exact (Mv.refl _ _).alloc _
  have HO3 : Hid (CaseOk bc w1.heap.size w3) := by rw [← hw3]; exact hsi.ok.alloc _
  have x0 : w3.cell? ⟨b6, 0, none⟩ = some (.int .i64 ver) := by subst hw3; subst hb6; go_simp
  have x1 : w3.cell? ⟨b6, 1, none⟩ = some (.slice (some ⟨tb, 0, none⟩) n 4) := by subst hw3; subst hb6; go_simp
  have h6c : b6 ≠ bc := by omega
  have h6l : b6 < w3.heap.size := by omega
  have hwc : w.heap.size ≠ bc := by omega
  have HK3 : Hid (∀ W, Mv bc w3 W → W.cell? ⟨b6, 0, none⟩ = some (.int .i64 ver) ∧ W.cell? ⟨b6, 1, none⟩ = some (.slice (some ⟨tb, 0, none⟩) n 4) ∧ W.cell? ⟨w.heap.size, 0, none⟩ = some (.int .i64 rv) ∧ W.cell? ⟨w.heap.size, 1, none⟩ = some (.slice rta rn rtc)) := fun W hm => by
    have hB : Below wa.heap.size wa W := B1.out.trans ((HSI.out.mv.trans (M3.out.trans hm)).below (B := wa.heap.size) (by omega) (by omega))
    exact ⟨(hm.cell (p := ⟨b6, 0, none⟩) h6l h6c).trans x0, (hm.cell (p := ⟨b6, 1, none⟩) h6l h6c).trans x1, (hB.cell (p := ⟨w.heap.size, 0, none⟩) (show w.heap.size < _ by omega)).trans r0, (hB.cell (p := ⟨w.heap.size, 1, none⟩) (show w.heap.size < _ by omega)).trans r1⟩
  have HW3 := Lib.hid hw3
  have HB6 := Lib.hid hb6
  have hlo3 : lo ≤ w3.heap.size := by omega
  have hblo : bc < lo := by omega
  clear hsok hsi HP hw3 hb6 htb x0 x1 r0 r1
  go_upto_region 3 with fail
  rw [HW3.out, HB6.out]
  clear HW3
  refine wp_region_held_drew (S := fun W => W.cell? ⟨b6, 0, none⟩ = some (.int .i64 ver) ∧ W.cell? ⟨b6, 1, none⟩ = some (.slice (some ⟨tb, 0, none⟩) n 4) ∧ W.cell? ⟨w.heap.size, 0, none⟩ = some (.int .i64 rv) ∧ W.cell? ⟨w.heap.size, 1, none⟩ = some (.slice rta rn rtc)) (by kernel_rfl) (HK3.out _ ((Mv.refl _ _).drewN 1)) (fun hHeld => ?_)
  obtain ⟨wd, hwd⟩ : ∃ wd, w3.drew = wd := ⟨_, rfl⟩
  have BW : Hid (Mv bc w3 wd) := by rw [← hwd]; exact (Mv.refl _ _).drewN 1
  have OW : Hid (CaseOk bc w1.heap.size wd) := by rw [← hwd]; exact HO3.out.below ((Below.refl _ _).drew) HO3.out.lt.2
  have hzd : w3.heap.size ≤ wd.heap.size := BW.out.size
  rw [hwd] at hHeld ⊢
  clear hwd
  refine wpAnyH_takeD (i := 0) (d := 21) (v := ?_) rfl rfl (by kernel_rfl) (by kernel_rfl) (by kernel_rfl) (fun _ _ _ h => h) (Or.inl ⟨by rfl, ?_⟩) (by assumption) ?_; rotate_left
  · intro W hSw; (try dsimp only at hSw); go_simp; (try with_reducible rfl)
  (try simp only [List.set_cons_zero, List.set_cons_succ])
  refine wpAnyH_takeD (i := 1) (d := 22) (v := ?_) rfl rfl (by kernel_rfl) (by kernel_rfl) (by kernel_rfl) (fun _ _ _ h => h) (Or.inl ⟨by rfl, ?_⟩) (by assumption) ?_; rotate_left
  · intro W hSw; (try dsimp only at hSw); go_simp; (try with_reducible rfl)
  (try simp only [List.set_cons_zero, List.set_cons_succ])
  refine wpAnyH_takeD (i := 2) (d := 23) (v := ?_) rfl rfl (by kernel_rfl) (by kernel_rfl) (by kernel_rfl) (fun _ _ _ h => h) (Or.inl ⟨by rfl, ?_⟩) (by assumption) ?_; rotate_left
  · intro W hSw; (try dsimp only at hSw); go_simp; (try with_reducible rfl)
  (try simp only [List.set_cons_zero, List.set_cons_succ])
  refine wpAnyH_takeD (i := 4) (d := 25) (v := ?_) rfl rfl (by kernel_rfl) (by kernel_rfl) (by kernel_rfl) (fun _ _ _ h => h) (Or.inl ⟨by rfl, ?_⟩) (by assumption) ?_; rotate_left
  · intro W hSw; (try dsimp only at hSw); go_simp; (try with_reducible rfl)
  (try simp only [List.set_cons_zero, List.set_cons_succ])
  refine wpAnyH_takeD (i := 7) (d := 28) (v := ?_) rfl rfl (by kernel_rfl) (by kernel_rfl) (by kernel_rfl) (fun _ _ _ h => h) (Or.inl ⟨by rfl, ?_⟩) (by assumption) ?_; rotate_left
  · intro W hSw; (try dsimp only at hSw); go_simp; (try with_reducible rfl)
  (try simp only [List.set_cons_zero, List.set_cons_succ])
  have HSP := Lib.hid (cSpoilS_any bc w1.heap.size lo 4 (by omega) hblo _ _ wd OW.out (by omega) (HSC.out wd (M3.out.trans BW.out)) (case_szs HSO.out))
  refine wpAnyH_ready (rs := [3]) (by kernel_rfl) (by simp) ?_
  refine AllReadyH.cons rfl (fun K hK => ?_) AllReadyH.nil
  go_simp
  refine HSP.out.mono ?_
  rintro e w4 ⟨vx, sx, rfl, hsc, hsz, hm4, ho4⟩
  have HSX0 := Lib.hid hsc
  have hs4 := hm4.size
  have M4 : Hid (Mv bc w3 w4) := BW.out.trans hm4
  have O4 : Hid (CaseOk bc w1.heap.size w4) := ho4
  obtain ⟨txv, rfl, hslx⟩ := hsc
  obtain ⟨xa, xc, rfl, -⟩ := hslx.shape
  obtain ⟨xn, hxn⟩ : ∃ xn, sx.ts.length = xn := ⟨_, rfl⟩
  obtain ⟨xv, hxv⟩ : ∃ xv, sx.ver = xv := ⟨_, rfl⟩
  rw [hxn, hxv] at HSX0 ⊢
  clear hHeld hsz hm4 ho4 hslx hxn hxv HSP BW OW
  refine hK.out _ _ (HK3.out _ M4.out) (fun hHeld => ?_)
  clear hK K
  (try simp only [List.set_cons_zero, List.set_cons_succ])
  obtain ⟨w5, hw5⟩ : ∃ w5, w4.alloc (.cells #[.int .i64 ver, .slice (some ⟨tb, 0, none⟩) n 4, .int .i64 xv, .slice xa xn xc, .int .i64 rv, .slice rta rn rtc] 25) = w5 := ⟨_, rfl⟩
  obtain ⟨bl, hbl⟩ : ∃ bl, w4.heap.size = bl := ⟨_, rfl⟩
  have hgl : w4.heap.size ≤ bl := by omega
  have hs5 : w5.heap.size = bl + 1 := by rw [← hw5, ← hbl]; simp
  have M45 : Hid (Mv bc w4 w5) := by rw [← hw5]; exact (Mv.refl _ _).alloc _
  have O5 : Hid (CaseOk bc w1.heap.size w5) := by rw [← hw5]; exact O4.out.alloc _
  have M25 : Hid (Mv bc w2 w5) := M3.out.trans (M4.out.trans M45.out)
  have hblc : bl ≠ bc := by omega
  have hbll : bl < w5.heap.size := by omega
  have l0 : w5.cell? ⟨bl, 0, none⟩ = some (.int .i64 ver) := by subst hw5; subst hbl; go_simp
  have l1 : w5.cell? ⟨bl, 1, none⟩ = some (.slice (some ⟨tb, 0, none⟩) n 4) := by subst hw5; subst hbl; go_simp
  have l2 : w5.cell? ⟨bl, 2, none⟩ = some (.int .i64 xv) := by subst hw5; subst hbl; go_simp
  have l3 : w5.cell? ⟨bl, 3, none⟩ = some (.slice xa xn xc) := by subst hw5; subst hbl; go_simp
  have l4 : w5.cell? ⟨bl, 4, none⟩ = some (.int .i64 rv) := by subst hw5; subst hbl; go_simp
  have l5 : w5.cell? ⟨bl, 5, none⟩ = some (.slice rta rn rtc) := by subst hw5; subst hbl; go_simp
  have HSCH : Hid (∀ k, k < 3 → SchAt bc w5 bl (k * 2)) := fun k hk => by
    have hk3 : k = 0 ∨ k = 1 ∨ k = 2 := by omega
    rcases hk3 with rfl | rfl | rfl
    · exact ⟨_, _, _, _, _, _, l0, l1, fun W hm => HSC.out W (M25.out.trans hm)⟩
    · exact ⟨_, _, _, _, _, _, l2, l3, fun W hm => HSX0.out.mv (M45.out.trans hm) (by omega)⟩
    · exact ⟨_, _, _, _, _, _, l4, l5, fun W hm => HRS.out.below (HRSW.out W (M25.out.trans hm))⟩
  refine wpAnyH_ready (rs := [5]) (by kernel_rfl) (by simp) ?_
  refine AllReadyH.cons rfl (fun K hK => ?_) AllReadyH.nil
  go_simp
  have HW5 := Lib.hid hw5
  have HBL := Lib.hid hbl
  clear hHeld hw5 hbl l0 l1 l2 l3 l4 l5 HSC HRS HSX0 HSI HSO
  try rw [HW5.out]
  try rw [HBL.out]
  refine hK.out _ _ (HK3.out _ (M4.out.trans M45.out)) (fun hHeld => ?_)
  clear hK K HW5
  (try simp only [List.set_cons_zero, List.set_cons_succ])
  refine wpAnyH_takeD (i := 6) (d := 27) (v := ?_) rfl rfl (by kernel_rfl) (by kernel_rfl) (by kernel_rfl) (fun _ _ _ h => h) (Or.inl ⟨by rfl, ?_⟩) (by assumption) ?_; rotate_left
  · intro W hSw; (try dsimp only at hSw); go_simp; (try with_reducible rfl)
  (try simp only [List.set_cons_zero, List.set_cons_succ])
  clear hHeld HK3
  refine wpAnyH_done (by kernel_rfl) ?_ _
  have HRW : Hid (∀ W, Mv bc w5 W → Below w.heap.size w W) := fun W hm => HRSW.out W (M25.out.trans hm)
  clear M3 M4 M45 M25 O4 HO3 HRSW B1 BA HB6 HBL
  go_wp2_with fail
  go_loopw [28] (fun s28 wr => ∃ k : Nat, k ≤ 3 ∧ s28 = .int .i64 k ∧ Hid (Mv bc w5 wr) ∧ Hid (CaseOk bc w1.heap.size wr)) (fun s28 _ => 3 - (intOf s28).toNat)
  case atStart => exact ⟨0, by omega, rfl, Mv.refl _ _, O5⟩
  case round =>
    clear O5
    obtain ⟨w6, rfl⟩ : ∃ x, x = wr := ⟨wr, rfl⟩
    obtain ⟨k, hk, rfl, MX, OX⟩ := hrel
    have hs6 := MX.out.size
    by_cases hk3 : k < 3
    · have hk3' : (k : Int) < 3 := by omega
      obtain ⟨P, sv, ta, tn, tc, s, f0, f1, hsc⟩ := HSCH.out k hk3
      have HSS : Hid (∀ W, Mv bc w6 W → Sc P W (.agg #[.int .i64 sv, .slice ta tn tc]) s) := fun W hm => hsc W (MX.out.trans hm)
      have q0 := (MX.out.cell (p := ⟨bl, k * 2, none⟩) hbll hblc).trans f0
      have q1 := (MX.out.cell (p := ⟨bl, k * 2 + 1, none⟩) hbll hblc).trans f1
      have hbl6 : bl < w6.heap.size := by omega
      obtain ⟨w7, hw7⟩ : ∃ w7, w6.alloc (.cells #[.int .i64 sv, .slice ta tn tc] 25) = w7 := ⟨_, rfl⟩
      obtain ⟨bx, hbx⟩ : ∃ bx, w6.heap.size = bx := ⟨_, rfl⟩
      have hgx : w6.heap.size ≤ bx := by omega
      have hs7 : w7.heap.size = bx + 1 := by rw [← hw7, ← hbx]; simp
      have M67 : Hid (Mv bc w6 w7) := by rw [← hw7]; exact (Mv.refl _ _).alloc _
      have O7 : Hid (CaseOk bc w1.heap.size w7) := by rw [← hw7]; exact OX.out.alloc _
      have y0 : w7.cell? ⟨bx, 0, none⟩ = some (.int .i64 sv) := by subst hw7; subst hbx; go_simp
      have y1 : w7.cell? ⟨bx, 1, none⟩ = some (.slice ta tn tc) := by subst hw7; subst hbx; go_simp
      have hbxc : bx ≠ bc := by omega
      have hbxl : bx < w7.heap.size := by omega
      have HI5 := Lib.hid (cInt_any bc w1.heap.size 5 w7 (by omega) (by omega) O7.out)
      have HW7 := Lib.hid hw7
      have HBX := Lib.hid hbx
      clear hsc f0 f1 hw7 hbx
      go_wp2_with fail
      rw [HW7.out, HBX.out]
      clear HW7
      refine HI5.out.mono ?_
      rintro e w8 ⟨r5, rfl, -, -, hm8, ho8⟩
      have hs8 := hm8.size
      have M78 : Hid (Mv bc w7 w8) := hm8
      obtain ⟨w9, hw9⟩ : ∃ w9, w8.alloc (.cells #[.int .i64 ti, .int .i64 r5] 3) = w9 := ⟨_, rfl⟩
      obtain ⟨by9, hby⟩ : ∃ by9, w8.heap.size = by9 := ⟨_, rfl⟩
      have hgy : w8.heap.size ≤ by9 := by omega
      have hs9 : w9.heap.size = by9 + 1 := by rw [← hw9, ← hby]; simp
      have M89 : Hid (Mv bc w8 w9) := by rw [← hw9]; exact (Mv.refl _ _).alloc _
      have O9 : Hid (CaseOk bc w1.heap.size w9) := by rw [← hw9]; exact ho8.alloc _
      have M69 : Hid (Mv bc w6 w9) := M67.out.trans (M78.out.trans M89.out)
      have i0 : w9.cell? ⟨by9, 0, none⟩ = some (.int .i64 ti) := by subst hw9; subst hby; go_simp
      have i1 : w9.cell? ⟨by9, 1, none⟩ = some (.int .i64 r5) := by subst hw9; subst hby; go_simp
      have hbyl : by9 < w9.heap.size := by omega
      have HTI : Hid (∀ q, q < 2 → ∃ z : Int, w9.cell? ⟨by9, q, none⟩ = some (.int .i64 z)) := fun q hq => by
        have hq2 : q = 0 ∨ q = 1 := by omega
        rcases hq2 with rfl | rfl
        · exact ⟨_, i0⟩
        · exact ⟨_, i1⟩
      have HS9 : Hid (∀ W, Below w9.heap.size w9 W → Sc P W (.agg #[.int .i64 sv, .slice ta tn tc]) s) := fun W hb => HSS.out W (M69.out.trans (Mv.of_below hb))
      have HK9 : Hid (∀ W, Below w9.heap.size w9 W → W.cell? ⟨bx, 0, none⟩ = some (.int .i64 sv) ∧ W.cell? ⟨bx, 1, none⟩ = some (.slice ta tn tc)) := fun W hb =>
        ⟨(hb.cell (p := ⟨bx, 0, none⟩) (show bx < _ by omega)).trans (((M78.out.trans M89.out).cell (p := ⟨bx, 0, none⟩) hbxl hbxc).trans y0), (hb.cell (p := ⟨bx, 1, none⟩) (show bx < _ by omega)).trans (((M78.out.trans M89.out).cell (p := ⟨bx, 1, none⟩) hbxl hbxc).trans y1)⟩
      have HRR : Hid (∀ W, Below w9.heap.size w9 W → RowAt W (.slice ra rn2 rc2) RL) := fun W hb => HRV.out.blw (HRW.out W (MX.out.trans (M69.out.trans (Mv.of_below hb))))
      have HW9 := Lib.hid hw9
      have HBY := Lib.hid hby
      clear hm8 ho8 hw9 hby i0 i1 y0 y1 q0 q1 HI5 HSS M67 M78 M89 O7 HBX
      go_wp2_with fail
      rw [HW9.out, HBY.out]
      clear HW9 HBY
      go_wp2_with fail
      go_loopw [37] (fun s37 wr => ∃ q : Nat, q ≤ 2 ∧ s37 = .int .i64 q ∧ Hid (Below w9.heap.size w9 wr)) (fun s37 _ => 2 - (intOf s37).toNat)
      case atStart => exact ⟨0, by omega, rfl, Below.refl _ _⟩
      case round =>
        obtain ⟨q, hq, rfl, BX⟩ := hrel
        obtain ⟨w10, rfl⟩ : ∃ x, x = wr := ⟨wr, rfl⟩
        have hs10 := BX.out.size
        by_cases hq2 : q < 2
        · have hq2' : (q : Int) < 2 := by omega
          obtain ⟨z, hz⟩ := HTI.out q hq2
          have p0 := (BX.out.cell (p := ⟨by9, q, none⟩) hbyl).trans hz
          have hby10 : by9 < w10.heap.size := by omega
          have HKW : Hid (∀ W, Below w10.heap.size w10 W → W.cell? ⟨bx, 0, none⟩ = some (.int .i64 sv) ∧ W.cell? ⟨bx, 1, none⟩ = some (.slice ta tn tc)) := fun W hb => HK9.out W (below_go BX.out hb)
          have HSW : Hid (∀ W, Below w10.heap.size w10 W → Sc P W (.agg #[.int .i64 sv, .slice ta tn tc]) s) := fun W hb => HS9.out W (below_go BX.out hb)
          have HRX : Hid (∀ W, Below w10.heap.size w10 W → RowAt W (.slice ra rn2 rc2) RL) := fun W hb => HRR.out W (below_go BX.out hb)
          clear hz
          go_upto_region 9 with fail
          clear p0
          refine wp_region_held_drew (S := fun W => W.cell? ⟨bx, 0, none⟩ = some (.int .i64 sv) ∧ W.cell? ⟨bx, 1, none⟩ = some (.slice ta tn tc)) (by kernel_rfl) (HKW.out _ (Below.refl _ _).drew) (fun hHeld => ?_)
          obtain ⟨wd, hwd⟩ : ∃ wd, w10.drew = wd := ⟨_, rfl⟩
          have BW : Hid (Below w10.heap.size w10 wd) := by rw [← hwd]; exact (Below.refl _ _).drew
          rw [hwd] at hHeld ⊢
          clear hwd
          refine wpAnyH_takeD (i := 0) (d := 41) (v := ?_) rfl rfl (by kernel_rfl) (by kernel_rfl) (by kernel_rfl) (fun _ _ _ h => h) (Or.inl ⟨by rfl, ?_⟩) (by assumption) ?_; rotate_left
          · intro W hSw; (try dsimp only at hSw); go_simp; (try with_reducible rfl)
          (try simp only [List.set_cons_zero, List.set_cons_succ])
          refine wpAnyH_takeD (i := 1) (d := 42) (v := ?_) rfl rfl (by kernel_rfl) (by kernel_rfl) (by kernel_rfl) (fun _ _ _ h => h) (Or.inl ⟨by rfl, ?_⟩) (by assumption) ?_; rotate_left
          · intro W hSw; (try dsimp only at hSw); go_simp; (try with_reducible rfl)
          (try simp only [List.set_cons_zero, List.set_cons_succ])
          refine wpAnyH_takeD (i := 3) (d := 44) (v := ?_) rfl rfl (by kernel_rfl) (by kernel_rfl) (by kernel_rfl) (fun _ _ _ h => h) (Or.inl ⟨by rfl, ?_⟩) (by assumption) ?_; rotate_left
          · intro W hSw; (try dsimp only at hSw); go_simp; (try with_reducible rfl)
          (try simp only [List.set_cons_zero, List.set_cons_succ])
          refine wpAnyH_takeD (i := 4) (d := 45) (v := ?_) rfl rfl (by kernel_rfl) (by kernel_rfl) (by kernel_rfl) (fun _ _ _ h => h) (Or.inl ⟨by rfl, ?_⟩) (by assumption) ?_; rotate_left
          · intro W hSw; (try dsimp only at hSw); go_simp; (try with_reducible rfl)
          (try simp only [List.set_cons_zero, List.set_cons_succ])
          refine wpAnyH_ready (rs := [2]) (by kernel_rfl) (by simp) ?_
          refine AllReadyH.cons rfl (fun K hK => ?_) AllReadyH.nil
          go_simp
          go_at_call 18
          refine (sKinds_any _ _ z _ (HSW.out _ BW.out)).mono ?_
          rintro e wk1 ⟨v2, rfl, hi2, hg⟩
          clear hHeld
          replace BW := Lib.hid (below_go BW.out hg)
          have K2 : Hid (IntsAt wk1 v2 (kndT (tbAt s z))) := hi2.at
          clear hi2
          clear hg
          refine hK.out _ _ (HKW.out _ BW.out) (fun hHeld => ?_)
          clear hK K
          (try simp only [List.set_cons_zero, List.set_cons_succ])
          refine wpAnyH_ready (rs := [5]) (by kernel_rfl) (by simp) ?_
          refine AllReadyH.cons rfl (fun K hK => ?_) AllReadyH.nil
          go_simp
          go_at_call 19
          refine (rKinds_any _ _ z _ (HSW.out _ BW.out)).mono ?_
          rintro e wk2 ⟨v5, rfl, ho5, hg, -, hl5⟩
          clear hHeld
          replace BW := Lib.hid (below_go BW.out hg)
          have K5 : Hid (IntsAt wk2 v5 (kndT (tbAt s z))) := (intsG_own ho5 hl5).at
          replace K2 := Lib.hid (K2.out.blw hg)
          clear ho5 hl5
          clear hg
          refine hK.out _ _ (HKW.out _ BW.out) (fun hHeld => ?_)
          clear hK K
          (try simp only [List.set_cons_zero, List.set_cons_succ])
          refine wpAnyH_ready (rs := [6]) (by kernel_rfl) (by simp) ?_
          refine AllReadyH.cons rfl (fun K hK => ?_) AllReadyH.nil
          go_simp
          go_at_call 17
          refine ((l7Same_any _ _ _ _ _ K2.out K5.out)).mono ?_
          rintro e wk3 ⟨rfl, nq, hdr⟩
          have hg : Below wk2.heap.size wk2 wk3 := by rw [hdr]; exact blwN2 (Below.refl _ _) _
          rw [decide_eq_true (rfl : kndT (tbAt s z) = kndT (tbAt s z))]
          clear hdr K2 K5
          clear hHeld
          replace BW := Lib.hid (below_go BW.out hg)
          clear hg
          refine hK.out _ _ (HKW.out _ BW.out) (fun hHeld => ?_)
          clear hK K
          (try simp only [List.set_cons_zero, List.set_cons_succ])
          refine wpAnyH_takeD (i := 7) (d := 48) (v := ?_) rfl rfl (by kernel_rfl) (by kernel_rfl) (by kernel_rfl) (fun _ _ _ h => h) (Or.inl ⟨by rfl, ?_⟩) (by assumption) ?_; rotate_left
          · intro W hSw; (try dsimp only at hSw); go_simp; (try with_reducible rfl)
          (try simp only [List.set_cons_zero, List.set_cons_succ])
          refine wpAnyH_takeD (i := 8) (d := 49) (v := ?_) rfl rfl (by kernel_rfl) (by kernel_rfl) (by kernel_rfl) (fun _ _ _ h => h) (Or.inl ⟨by rfl, ?_⟩) (by assumption) ?_; rotate_left
          · intro W hSw; (try dsimp only at hSw); go_simp; (try with_reducible rfl)
          (try simp only [List.set_cons_zero, List.set_cons_succ])
          refine wpAnyH_takeD (i := 9) (d := 50) (v := ?_) rfl rfl (by kernel_rfl) (by kernel_rfl) (by kernel_rfl) (fun _ _ _ h => h) (Or.inl ⟨by rfl, ?_⟩) (by assumption) ?_; rotate_left
          · intro W hSw; (try dsimp only at hSw); go_simp; (try with_reducible rfl)
          (try simp only [List.set_cons_zero, List.set_cons_succ])
          refine wpAnyH_takeD (i := 10) (d := 51) (v := ?_) rfl rfl (by kernel_rfl) (by kernel_rfl) (by kernel_rfl) (fun _ _ _ h => h) (Or.inl ⟨by rfl, ?_⟩) (by assumption) ?_; rotate_left
          · intro W hSw; (try dsimp only at hSw); go_simp; (try with_reducible rfl)
          (try simp only [List.set_cons_zero, List.set_cons_succ])
          refine wpAnyH_takeD (i := 12) (d := 53) (v := ?_) rfl rfl (by kernel_rfl) (by kernel_rfl) (by kernel_rfl) (fun _ _ _ h => h) (Or.inl ⟨by rfl, ?_⟩) (by assumption) ?_; rotate_left
          · intro W hSw; (try dsimp only at hSw); go_simp; (try with_reducible rfl)
          (try simp only [List.set_cons_zero, List.set_cons_succ])
          refine wpAnyH_takeD (i := 13) (d := 54) (v := ?_) rfl rfl (by kernel_rfl) (by kernel_rfl) (by kernel_rfl) (fun _ _ _ h => h) (Or.inl ⟨by rfl, ?_⟩) (by assumption) ?_; rotate_left
          · intro W hSw; (try dsimp only at hSw); go_simp; (try with_reducible rfl)
          (try simp only [List.set_cons_zero, List.set_cons_succ])
          refine wpAnyH_ready (rs := [11]) (by kernel_rfl) (by simp) ?_
          refine AllReadyH.cons rfl (fun K hK => ?_) AllReadyH.nil
          go_simp
          go_at_call 20
          refine (sKeyKinds_any _ _ z _ (HSW.out _ BW.out)).mono ?_
          rintro e wk4 ⟨v11, rfl, hi2, hg⟩
          clear hHeld
          replace BW := Lib.hid (below_go BW.out hg)
          have K2 : Hid (IntsAt wk4 v11 (keyK (tbAt s z))) := hi2.at
          clear hi2
          clear hg
          refine hK.out _ _ (HKW.out _ BW.out) (fun hHeld => ?_)
          clear hK K
          (try simp only [List.set_cons_zero, List.set_cons_succ])
          refine wpAnyH_ready (rs := [14]) (by kernel_rfl) (by simp) ?_
          refine AllReadyH.cons rfl (fun K hK => ?_) AllReadyH.nil
          go_simp
          go_at_call 21
          refine (rKeyKinds_any _ _ z _ (HSW.out _ BW.out)).mono ?_
          rintro e wk5 ⟨v14, rfl, hi2, hg⟩
          clear hHeld
          replace BW := Lib.hid (below_go BW.out hg)
          have K5 : Hid (IntsAt wk5 v14 (keyK (tbAt s z))) := hi2
          replace K2 := Lib.hid (K2.out.blw hg)
          clear hi2
          clear hg
          refine hK.out _ _ (HKW.out _ BW.out) (fun hHeld => ?_)
          clear hK K
          (try simp only [List.set_cons_zero, List.set_cons_succ])
          refine wpAnyH_ready (rs := [15]) (by kernel_rfl) (by simp) ?_
          refine AllReadyH.cons rfl (fun K hK => ?_) AllReadyH.nil
          go_simp
          go_at_call 17
          refine ((l7Same_any _ _ _ _ _ K2.out K5.out)).mono ?_
          rintro e wk6 ⟨rfl, nq, hdr⟩
          have hg : Below wk5.heap.size wk5 wk6 := by rw [hdr]; exact blwN2 (Below.refl _ _) _
          rw [decide_eq_true (rfl : keyK (tbAt s z) = keyK (tbAt s z))]
          clear hdr K2 K5
          clear hHeld
          replace BW := Lib.hid (below_go BW.out hg)
          clear hg
          refine hK.out _ _ (HKW.out _ BW.out) (fun hHeld => ?_)
          clear hK K
          (try simp only [List.set_cons_zero, List.set_cons_succ])
          refine wpAnyH_takeD (i := 16) (d := 57) (v := ?_) rfl rfl (by kernel_rfl) (by kernel_rfl) (by kernel_rfl) (fun _ _ _ h => h) (Or.inl ⟨by rfl, ?_⟩) (by assumption) ?_; rotate_left
          · intro W hSw; (try dsimp only at hSw); go_simp; (try with_reducible rfl)
          (try simp only [List.set_cons_zero, List.set_cons_succ])
          refine wpAnyH_takeD (i := 17) (d := 58) (v := ?_) rfl rfl (by kernel_rfl) (by kernel_rfl) (by kernel_rfl) (fun _ _ _ h => h) (Or.inl ⟨by rfl, ?_⟩) (by assumption) ?_; rotate_left
          · intro W hSw; (try dsimp only at hSw); go_simp; (try with_reducible rfl)
          (try simp only [List.set_cons_zero, List.set_cons_succ])
          refine wpAnyH_takeD (i := 18) (d := 59) (v := ?_) rfl rfl (by kernel_rfl) (by kernel_rfl) (by kernel_rfl) (fun _ _ _ h => h) (Or.inl ⟨by rfl, ?_⟩) (by assumption) ?_; rotate_left
          · intro W hSw; (try dsimp only at hSw); go_simp; (try with_reducible rfl)
          (try simp only [List.set_cons_zero, List.set_cons_succ])
          refine wpAnyH_takeD (i := 19) (d := 60) (v := ?_) rfl rfl (by kernel_rfl) (by kernel_rfl) (by kernel_rfl) (fun _ _ _ h => h) (Or.inl ⟨by rfl, ?_⟩) (by assumption) ?_; rotate_left
          · intro W hSw; (try dsimp only at hSw); go_simp; (try with_reducible rfl)
          (try simp only [List.set_cons_zero, List.set_cons_succ])
          refine wpAnyH_takeD (i := 20) (d := 61) (v := ?_) rfl rfl (by kernel_rfl) (by kernel_rfl) (by kernel_rfl) (fun _ _ _ h => h) (Or.inl ⟨by rfl, ?_⟩) (by assumption) ?_; rotate_left
          · intro W hSw; (try dsimp only at hSw); go_simp; (try with_reducible rfl)
          (try simp only [List.set_cons_zero, List.set_cons_succ])
          refine wpAnyH_takeD (i := 21) (d := 62) (v := ?_) rfl rfl (by kernel_rfl) (by kernel_rfl) (by kernel_rfl) (fun _ _ _ h => h) (Or.inl ⟨by rfl, ?_⟩) (by assumption) ?_; rotate_left
          · intro W hSw; (try dsimp only at hSw); go_simp; (try with_reducible rfl)
          (try simp only [List.set_cons_zero, List.set_cons_succ])
          refine wpAnyH_takeD (i := 23) (d := 64) (v := ?_) rfl rfl (by kernel_rfl) (by kernel_rfl) (by kernel_rfl) (fun _ _ _ h => h) (Or.inl ⟨by rfl, ?_⟩) (by assumption) ?_; rotate_left
          · intro W hSw; (try dsimp only at hSw); go_simp; (try with_reducible rfl)
          (try simp only [List.set_cons_zero, List.set_cons_succ])
          refine wpAnyH_takeD (i := 24) (d := 65) (v := ?_) rfl rfl (by kernel_rfl) (by kernel_rfl) (by kernel_rfl) (fun _ _ _ h => h) (Or.inl ⟨by rfl, ?_⟩) (by assumption) ?_; rotate_left
          · intro W hSw; (try dsimp only at hSw); go_simp; (try with_reducible rfl)
          (try simp only [List.set_cons_zero, List.set_cons_succ])
          refine wpAnyH_takeD (i := 25) (d := 66) (v := ?_) rfl rfl (by kernel_rfl) (by kernel_rfl) (by kernel_rfl) (fun _ _ _ h => h) (Or.inl ⟨by rfl, ?_⟩) (by assumption) ?_; rotate_left
          · intro W hSw; (try dsimp only at hSw); go_simp; (try with_reducible rfl)
          (try simp only [List.set_cons_zero, List.set_cons_succ])
          refine wpAnyH_ready (rs := [22]) (by kernel_rfl) (by simp) ?_
          refine AllReadyH.cons rfl (fun K hK => ?_) AllReadyH.nil
          go_simp
          go_at_call 23
          refine (sKey_any _ _ z ra rn2 rc2 RL _ (HSW.out _ BW.out) (HRX.out _ BW.out)).mono ?_
          rintro e wk7 ⟨v22, rfl, hi2, hg⟩
          clear hHeld
          replace BW := Lib.hid (below_go BW.out hg)
          have K7 : Hid (RowAt wk7 v22 (keyRow s z RL)) := hi2
          clear hi2
          clear hg
          refine hK.out _ _ (HKW.out _ BW.out) (fun hHeld => ?_)
          clear hK K
          (try simp only [List.set_cons_zero, List.set_cons_succ])
          refine wpAnyH_ready (rs := [26]) (by kernel_rfl) (by simp) ?_
          refine AllReadyH.cons rfl (fun K hK => ?_) AllReadyH.nil
          go_simp
          go_at_call 24
          refine (rKey_any _ _ z ra rn2 rc2 RL _ (HSW.out _ BW.out) (HRX.out _ BW.out) hrc).mono ?_
          rintro e wk8 ⟨v26, rfl, hi2, hg⟩
          clear hHeld
          replace BW := Lib.hid (below_go BW.out hg)
          have K8 : Hid (RowAt wk8 v26 (keyRow s z RL)) := hi2
          replace K7 := Lib.hid (K7.out.blw hg)
          clear hi2
          clear hg
          refine hK.out _ _ (HKW.out _ BW.out) (fun hHeld => ?_)
          clear hK K
          (try simp only [List.set_cons_zero, List.set_cons_succ])
          refine wpAnyH_ready (rs := [27]) (by kernel_rfl) (by simp) ?_
          refine AllReadyH.cons rfl (fun K hK => ?_) AllReadyH.nil
          go_simp
          go_at_call 22
          refine (rCompareRows_any _ _ _ _ _ K7.out K8.out).mono ?_
          rintro e wk9 ⟨rfl, hgr⟩
          have hg : Below wk8.heap.size wk8 wk9 := hgr.below
          rw [(cmpRows_zero _ _).2 (rfl : keyRow s z RL = keyRow s z RL)]
          clear hgr K7 K8
          clear hHeld
          replace BW := Lib.hid (below_go BW.out hg)
          clear hg
          refine hK.out _ _ (HKW.out _ BW.out) (fun hHeld => ?_)
          clear hK K
          (try simp only [List.set_cons_zero, List.set_cons_succ])
          refine wpAnyH_takeD (i := 28) (d := 69) (v := ?_) rfl rfl (by kernel_rfl) (by kernel_rfl) (by kernel_rfl) (fun _ _ _ h => h) (Or.inl ⟨by rfl, ?_⟩) (by assumption) ?_; rotate_left
          · intro W hSw; (try dsimp only at hSw); go_simp; (try with_reducible rfl)
          (try simp only [List.set_cons_zero, List.set_cons_succ])
          refine wpAnyH_takeD (i := 29) (d := 70) (v := ?_) rfl rfl (by kernel_rfl) (by kernel_rfl) (by kernel_rfl) (fun _ _ _ h => h) (Or.inl ⟨by rfl, ?_⟩) (by assumption) ?_; rotate_left
          · intro W hSw; (try dsimp only at hSw); go_simp; (try with_reducible rfl)
          (try simp only [List.set_cons_zero, List.set_cons_succ])
          clear hHeld
          refine wpAnyH_done (by kernel_rfl) ?_ _
          have BZ : Hid (Below w9.heap.size w9 wk9) := below_go BX.out BW.out
          clear HKW HSW HRX BW
          go_wp2_with fail
          go_roundw
          case rel => exact ⟨q + 1, by omega, by go_num, BZ⟩
          case measure => simp [intOf]; omega
        · have HKW : Hid (∀ W, Below w10.heap.size w10 W → W.cell? ⟨bx, 0, none⟩ = some (.int .i64 sv) ∧ W.cell? ⟨bx, 1, none⟩ = some (.slice ta tn tc)) := fun W hb => HK9.out W (below_go BX.out hb)
          obtain ⟨zn, hzn⟩ : ∃ zn, fndL name s.ts 0 = zn := ⟨_, rfl⟩
          obtain ⟨zt, hzt⟩ : ∃ zt, fndL ⟨#[116, 97, 115, 107, 115]⟩ s.ts 0 = zt := ⟨_, rfl⟩
          have F1 : Hid (∀ W, Below w10.heap.size w10 W → Calls Try.prog 25 #[.agg #[.int .i64 sv, .slice ta tn tc], .string name] W fun e w' => e = .returned (.int .i64 zn) ∧ Below W.heap.size W w') := fun W hb => by
            rw [← hzn]; exact sFind_any _ _ name W (HS9.out W (below_go BX.out hb))
          have F2 : Hid (∀ W, Below w10.heap.size w10 W → Calls Try.prog 15 #[.agg #[.int .i64 sv, .slice ta tn tc], .string name] W fun e w' => e = .returned (.int .i64 zn) ∧ Below W.heap.size W w') := fun W hb => by
            rw [← hzn]; exact rFind_any _ _ name W (HS9.out W (below_go BX.out hb))
          have F3 : Hid (∀ W, Below w10.heap.size w10 W → Calls Try.prog 25 #[.agg #[.int .i64 sv, .slice ta tn tc], .string ⟨#[116, 97, 115, 107, 115]⟩] W fun e w' => e = .returned (.int .i64 zt) ∧ Below W.heap.size W w') := fun W hb => by
            rw [← hzt]; exact sFind_any _ _ _ W (HS9.out W (below_go BX.out hb))
          have F4 : Hid (∀ W, Below w10.heap.size w10 W → Calls Try.prog 15 #[.agg #[.int .i64 sv, .slice ta tn tc], .string ⟨#[116, 97, 115, 107, 115]⟩] W fun e w' => e = .returned (.int .i64 zt) ∧ Below W.heap.size W w') := fun W hb => by
            rw [← hzt]; exact rFind_any _ _ _ W (HS9.out W (below_go BX.out hb))
          clear hzn hzt HTI HRR HK9 HS9
          go_upto_region 12 with fail
          refine wp_region_held_drew (S := fun W => W.cell? ⟨bx, 0, none⟩ = some (.int .i64 sv) ∧ W.cell? ⟨bx, 1, none⟩ = some (.slice ta tn tc)) (by kernel_rfl) (HKW.out _ (Below.refl _ _).drew) (fun hHeld => ?_)
          obtain ⟨wd, hwd⟩ : ∃ wd, w10.drew = wd := ⟨_, rfl⟩
          have BW : Hid (Below w10.heap.size w10 wd) := by rw [← hwd]; exact (Below.refl _ _).drew
          rw [hwd] at hHeld ⊢
          clear hwd
          refine wpAnyH_takeD (i := 0) (d := 72) (v := ?_) rfl rfl (by kernel_rfl) (by kernel_rfl) (by kernel_rfl) (fun _ _ _ h => h) (Or.inl ⟨by rfl, ?_⟩) (by assumption) ?_; rotate_left
          · intro W hSw; (try dsimp only at hSw); go_simp; (try with_reducible rfl)
          (try simp only [List.set_cons_zero, List.set_cons_succ])
          refine wpAnyH_takeD (i := 1) (d := 73) (v := ?_) rfl rfl (by kernel_rfl) (by kernel_rfl) (by kernel_rfl) (fun _ _ _ h => h) (Or.inl ⟨by rfl, ?_⟩) (by assumption) ?_; rotate_left
          · intro W hSw; (try dsimp only at hSw); go_simp; (try with_reducible rfl)
          (try simp only [List.set_cons_zero, List.set_cons_succ])
          refine wpAnyH_takeD (i := 3) (d := 75) (v := ?_) rfl rfl (by kernel_rfl) (by kernel_rfl) (by kernel_rfl) (fun _ _ _ h => h) (Or.inl ⟨by rfl, ?_⟩) (by assumption) ?_; rotate_left
          · intro W hSw; (try dsimp only at hSw); go_simp; (try with_reducible rfl)
          (try simp only [List.set_cons_zero, List.set_cons_succ])
          refine wpAnyH_takeD (i := 4) (d := 76) (v := ?_) rfl rfl (by kernel_rfl) (by kernel_rfl) (by kernel_rfl) (fun _ _ _ h => h) (Or.inl ⟨by rfl, ?_⟩) (by assumption) ?_; rotate_left
          · intro W hSw; (try dsimp only at hSw); go_simp; (try with_reducible rfl)
          (try simp only [List.set_cons_zero, List.set_cons_succ])
          refine wpAnyH_ready (rs := [2]) (by kernel_rfl) (by simp) ?_
          refine AllReadyH.cons rfl (fun K hK => ?_) AllReadyH.nil
          go_simp
          go_at_call 25
          refine (F1.out _ BW.out).mono ?_
          rintro e wf1 ⟨rfl, hg⟩
          clear hHeld
          replace BW := Lib.hid (below_go BW.out hg)
          clear hg
          refine hK.out _ _ (HKW.out _ BW.out) (fun hHeld => ?_)
          clear hK K
          (try simp only [List.set_cons_zero, List.set_cons_succ])
          refine wpAnyH_ready (rs := [5]) (by kernel_rfl) (by simp) ?_
          refine AllReadyH.cons rfl (fun K hK => ?_) AllReadyH.nil
          go_simp
          go_at_call 15
          refine (F2.out _ BW.out).mono ?_
          rintro e wf2 ⟨rfl, hg⟩
          clear hHeld
          replace BW := Lib.hid (below_go BW.out hg)
          clear hg
          refine hK.out _ _ (HKW.out _ BW.out) (fun hHeld => ?_)
          clear hK K
          (try simp only [List.set_cons_zero, List.set_cons_succ])
          refine wpAnyH_takeD (i := 6) (d := 78) (v := ?_) rfl rfl (by kernel_rfl) (by kernel_rfl) (by kernel_rfl) (fun _ _ _ h => h) (Or.inl ⟨by rfl, ?_⟩) (by assumption) ?_; rotate_left
          · intro W hSw; (try dsimp only at hSw); go_simp; (try with_reducible rfl)
          (try simp only [List.set_cons_zero, List.set_cons_succ])
          refine wpAnyH_takeD (i := 7) (d := 79) (v := ?_) rfl rfl (by kernel_rfl) (by kernel_rfl) (by kernel_rfl) (fun _ _ _ h => h) (Or.inl ⟨by rfl, ?_⟩) (by assumption) ?_; rotate_left
          · intro W hSw; (try dsimp only at hSw); go_simp; (try with_reducible rfl)
          (try simp only [List.set_cons_zero, List.set_cons_succ])
          refine wpAnyH_takeD (i := 8) (d := 80) (v := ?_) rfl rfl (by kernel_rfl) (by kernel_rfl) (by kernel_rfl) (fun _ _ _ h => h) (Or.inl ⟨by rfl, ?_⟩) (by assumption) ?_; rotate_left
          · intro W hSw; (try dsimp only at hSw); go_simp; (try with_reducible rfl)
          (try simp only [List.set_cons_zero, List.set_cons_succ])
          refine wpAnyH_takeD (i := 10) (d := 82) (v := ?_) rfl rfl (by kernel_rfl) (by kernel_rfl) (by kernel_rfl) (fun _ _ _ h => h) (Or.inl ⟨by rfl, ?_⟩) (by assumption) ?_; rotate_left
          · intro W hSw; (try dsimp only at hSw); go_simp; (try with_reducible rfl)
          (try simp only [List.set_cons_zero, List.set_cons_succ])
          refine wpAnyH_ready (rs := [9]) (by kernel_rfl) (by simp) ?_
          refine AllReadyH.cons rfl (fun K hK => ?_) AllReadyH.nil
          go_simp
          go_at_call 25
          refine (F3.out _ BW.out).mono ?_
          rintro e wf3 ⟨rfl, hg⟩
          clear hHeld
          replace BW := Lib.hid (below_go BW.out hg)
          clear hg
          refine hK.out _ _ (HKW.out _ BW.out) (fun hHeld => ?_)
          clear hK K
          (try simp only [List.set_cons_zero, List.set_cons_succ])
          refine wpAnyH_ready (rs := [11]) (by kernel_rfl) (by simp) ?_
          refine AllReadyH.cons rfl (fun K hK => ?_) AllReadyH.nil
          go_simp
          go_at_call 15
          refine (F4.out _ BW.out).mono ?_
          rintro e wf4 ⟨rfl, hg⟩
          clear hHeld
          replace BW := Lib.hid (below_go BW.out hg)
          clear hg
          refine hK.out _ _ (HKW.out _ BW.out) (fun hHeld => ?_)
          clear hK K
          (try simp only [List.set_cons_zero, List.set_cons_succ])
          refine wpAnyH_takeD (i := 12) (d := 84) (v := ?_) rfl rfl (by kernel_rfl) (by kernel_rfl) (by kernel_rfl) (fun _ _ _ h => h) (Or.inl ⟨by rfl, ?_⟩) (by assumption) ?_; rotate_left
          · intro W hSw; (try dsimp only at hSw); go_simp; (try with_reducible rfl)
          (try simp only [List.set_cons_zero, List.set_cons_succ])
          refine wpAnyH_takeD (i := 13) (d := 85) (v := ?_) rfl rfl (by kernel_rfl) (by kernel_rfl) (by kernel_rfl) (fun _ _ _ h => h) (Or.inl ⟨by rfl, ?_⟩) (by assumption) ?_; rotate_left
          · intro W hSw; (try dsimp only at hSw); go_simp; (try with_reducible rfl)
          (try simp only [List.set_cons_zero, List.set_cons_succ])
          clear hHeld
          refine wpAnyH_done (by kernel_rfl) ?_ _
          have MZ : Hid (Mv bc w5 wf4) := MX.out.trans (M69.out.trans (Mv.of_below (below_go BX.out BW.out)))
          have OZ : Hid (CaseOk bc w1.heap.size wf4) := O9.out.below (below_go BX.out BW.out) O9.out.lt.2
          clear HKW BW F1 F2 F3 F4
          go_wp2_with fail
          go_roundw
          case rel => exact ⟨k + 1, by omega, by go_num, MZ, OZ⟩
          case measure => simp [intOf]; omega
    · have BF : Hid (Below w.heap.size w w6) := HRW.out w6 MX.out
      clear HSCH
      go_wp2_with fail
      refine (HBG.out _).mono ?_
      rintro e w7 ⟨rfl, hb⟩
      have BF2 : Hid (Below w.heap.size w w7) := below_go BF.out hb
      clear hb
      go_wp2_with fail
      go_ret
      exact ⟨rfl, BF2.out⟩
end Go.Proofs.Ytjcbmeannhafjaa
