/- Law SchemaModes. -/
import Derived.Test.YtjkjmkplcjfogaaCSchema
import Derived.Test.YtjkjmkplcjfogaaPdNew
import Derived.Test.YtjkjmkplcjfogaaScBegun
import Derived.Test.YtjkjmkplcjfogaaPdBindMem
namespace Go.Proofs.Ytjkjmkplcjfogaa
open Go.RowKit Go.Deep

theorem l7Same_t (va vb : Value) (A : List Int) (w : World) (ha : IntsAt w va A) (hb : IntsAt w vb A) : Calls Try.prog 27 #[va, vb] w fun e w' => e = .returned (.bool true) ∧ Below w.heap.size w w' :=
  (l7Same_any va vb A A w ha hb).mono fun e w' h => ⟨by rw [h.1, decide_eq_true rfl], by obtain ⟨n, e⟩ := h.2; rw [e]; exact ((Gr.refl w).drewN n).below⟩
theorem rowAt_own {w : World} {base : Nat} {v : Value} {l : List V} (h : w.ownsRow base 24 3 v l.length (cellsOf l)) (hl : l.length ≤ 4398046511104) : RowAt w v l := (rowT_own h hl).rowB.at (Nat.le_refl _)
/-- The key of a table of a case, and that its row of the case has its width. -/
theorem SInv.tabAt {bc B lo sb tb n : Nat} {w0 W : World} {ver : Int} {TS : List TB} (h : SInv bc B lo w0 sb tb n ver TS W) {j : Nat} (hj : j < TS.length) : W.cell? ⟨tb, j * 5 + 2, none⟩ = some (.int .i64 TS[j].key) := by
  obtain ⟨_, _, _, _, ⟨-, -, c2, -, -⟩, -⟩ := h.tabs j hj
  exact c2

set_option linter.unusedSimpArgs false in
set_option maxRecDepth 100000 in
set_option maxHeartbeats 8000000 in
theorem smodes_walk (cv : Value) (cn : Nat) (ra : Option Addr) (rn rc : Nat) (RL : List V) (w : World) (hcv : BytesAt w cv cn) (hrv : RowAt w (.slice ra rn rc) RL) : Calls Try.prog 8 #[cv, .slice ra rn rc] w fun e w' => e = .returned (.bool true) ∧ Below w.heap.size w w' := by
  have HN := Lib.hid (cNew_90 cv cn w hcv)
  obtain ⟨sa, sc, rfl, _⟩ := hcv
  have HRV := Lib.hid hrv
  have HBG : Hid (∀ W, Calls Try.prog 20 #[] W fun e w' => e = .returned (.bool true) ∧ Below W.heap.size W w') := begun7_any
  clear hrv
  go_enter Try.func8, Try.ntmps8
  go_wp2_with fail
  refine HN.out.mono ?_
  rintro e w1 ⟨bc, rfl, hb1, hbc, hok⟩
  have hlt : bc < w1.heap.size := hok.lt.1
  have B1 : Hid (Below w.heap.size w w1) := hb1
  have hs1 := hb1.size
  have HS := Lib.hid (cSchema_any bc w1.heap.size w1 hok)
  clear hb1 hok HN
  go_wp2_with fail
  refine HS.out.mono ?_
  rintro e w2 ⟨lo, sb, tb, n, id, ver, rs1, rs2, rs3, ck, rfl, hsok, hsi⟩
  have HSO := Lib.hid hsok
  have HSI := Lib.hid hsi
  have hn2 : 2 ≤ n := hsok.n2
  have hn4 : n ≤ 4 := hsok.n4
  have hbcl := hsi.bclt
  have hlo1 : w1.heap.size ≤ lo := hsi.hlo.1
  obtain ⟨t1, t2, -, -, -⟩ := hsi.htb
  have hm2 := hsi.mv
  have hs2 := hm2.size
  clear hsok HS
  -- the box of the schema
  obtain ⟨wb, hwb⟩ : ∃ wb, w2.alloc (.cells #[.int .i64 ver, .slice (some ⟨tb, 0, none⟩) n 4] 45) = wb := ⟨_, rfl⟩
  obtain ⟨bx, hbx⟩ : ∃ bx, w2.heap.size = bx := ⟨_, rfl⟩
  have hbx1 : w1.heap.size ≤ bx := by omega
  have hsb : wb.heap.size = bx + 1 := by rw [← hwb, ← hbx]; simp
  have HSB : Hid (SInv bc w1.heap.size lo w1 sb tb n ver [tP, tT id rs1 ck, tM rs2, tA id rs3] wb) := by rw [← hwb]; exact hsi.alloc _
  have MB : Hid (Mv bc w1 wb) := by rw [← hwb]; exact hm2.alloc _
  have q0 : wb.cell? ⟨bx, 0, none⟩ = some (.int .i64 ver) := by rw [← hbx]; subst hwb; go_simp
  have q1 : wb.cell? ⟨bx, 1, none⟩ = some (.slice (some ⟨tb, 0, none⟩) n 4) := by rw [← hbx]; subst hwb; go_simp
  have hbxb : bx ≠ bc := by omega
  have HQ : Hid (∀ W, Mv bc wb W → W.cell? ⟨bx, 0, none⟩ = some (.int .i64 ver) ∧ W.cell? ⟨bx, 1, none⟩ = some (.slice (some ⟨tb, 0, none⟩) n 4)) := fun W hm =>
    ⟨(hm.cell (p := ⟨bx, 0, none⟩) (show bx < _ by omega) hbxb).trans q0, (hm.cell (p := ⟨bx, 1, none⟩) (show bx < _ by omega) hbxb).trans q1⟩
  have HI := Lib.hid (cInt_any bc w1.heap.size (n : Int) wb (by omega) (by omega) HSB.out.ok)
  have HWB := Lib.hid hwb
  have HBX := Lib.hid hbx
  clear hsi HSI hm2 hwb hbx t1 t2 q0 q1
  go_wp2_with fail
  rw [HWB.out, HBX.out]
  clear HWB HBX
  refine HI.out.mono ?_
  rintro e w3 ⟨r, rfl, hr0, hr1, hm3, ho3⟩
  obtain ⟨t, rfl⟩ : ∃ q : Nat, r = q := ⟨r.toNat, by omega⟩
  have htn : t < n := by omega
  have HS3 := Lib.hid (HSB.out.step hm3 ho3)
  have M3 : Hid (Mv bc wb w3) := hm3
  have hs3 := hm3.size
  clear hr0 hr1 hm3 ho3 HI HSB
  have HCL : Hid ((cSC n id ver rs1 rs2 rs3 ck).ts.length = n) := cSC_len hn4 id ver rs1 rs2 rs3 ck
  have htl : t < (cSC n id ver rs1 rs2 rs3 ck).ts.length := by rw [HCL.out]; exact htn
  obtain ⟨TT, hTT⟩ : ∃ TT, (cSC n id ver rs1 rs2 rs3 ck).ts[t] = TT := ⟨_, rfl⟩
  have HKT : Hid (okKs (kndT TT) = true ∧ (kndT TT).length ≤ 4) := by rw [← hTT]; have h := case_kinds HSO.out _ (List.getElem_mem htl); exact ⟨h.1, h.2.1⟩
  have HTA : Hid (tbAt (cSC n id ver rs1 rs2 rs3 ck) t = TT) := by rw [← hTT]; exact tbAt_in htl
  have hkey : w3.cell? ⟨tb, t * 5 + 2, none⟩ = some (.int .i64 TT.key) := by
    have h := HS3.out.tabAt (j := t) (by rw [HS3.out.len]; omega)
    rw [← hTT]
    have e : (cSC n id ver rs1 rs2 rs3 ck).ts[t] = [tP, tT id rs1 ck, tM rs2, tA id rs3][t]'(by simp; omega) := by show (List.take n _)[t]'_ = _; exact List.getElem_take ..
    rw [e]; exact h
  have HKC : Hid (∀ W, Mv bc w3 W → W.cell? ⟨tb, t * 5 + 2, none⟩ = some (.int .i64 TT.key)) := fun W hm => (hm.cell (p := ⟨tb, t * 5 + 2, none⟩) HS3.out.htb.2.1 (show tb ≠ bc by have := HS3.out.htb.1; omega)).trans hkey
  have HSC : Hid (∀ W, Mv bc w3 W → Sc (fun b => lo ≤ b) W (.agg #[.int .i64 ver, .slice (some ⟨tb, 0, none⟩) n 4]) (cSC n id ver rs1 rs2 rs3 ck)) := fun W hm => (HS3.out.sc hn4).mv hm (by omega)
  have HKK : Hid (∀ W, Mv bc w3 W → Calls Try.prog 29 #[.agg #[.int .i64 ver, .slice (some ⟨tb, 0, none⟩) n 4], .int .i64 t] W (KndOwn (kndT TT) W)) := fun W hm => by
    have h := rKinds_any _ _ t W (HSC.out W hm)
    rw [HTA.out] at h; exact h
  have HK5 : Hid (∀ W, Mv bc w3 W → W.cell? ⟨bx, 0, none⟩ = some (.int .i64 ver) ∧ W.cell? ⟨bx, 1, none⟩ = some (.slice (some ⟨tb, 0, none⟩) n 4) ∧ W.cell? ⟨tb, t * 5 + 2, none⟩ = some (.int .i64 TT.key)) := fun W hm =>
    ⟨(HQ.out W (M3.out.trans hm)).1, (HQ.out W (M3.out.trans hm)).2, HKC.out W hm⟩
  have htl4 : (t : Int) < n := by omega
  have hK3 : ∀ x, IntKind.i64.wrap (1 + (x : Int)) = 1 + (x : Int) ∨ True := fun _ => .inr trivial
  clear hTT hkey hK3
  go_upto_region 4 with fail
  refine wp_region_held_drew (S := fun W => W.cell? ⟨bx, 0, none⟩ = some (.int .i64 ver) ∧ W.cell? ⟨bx, 1, none⟩ = some (.slice (some ⟨tb, 0, none⟩) n 4) ∧ W.cell? ⟨tb, t * 5 + 2, none⟩ = some (.int .i64 TT.key)) (by kernel_rfl) (HK5.out _ ((Mv.refl _ _).drewN 1)) (fun hHeld => ?_)
  obtain ⟨wd, hwd⟩ : ∃ wd, w3.drew = wd := ⟨_, rfl⟩
  have hbd : Below w3.heap.size w3 wd := by rw [← hwd]; exact (Below.refl _ _).drew
  have HBD : Hid (Mv bc w3 wd) := Mv.of_below hbd
  have OD : Hid (CaseOk bc w1.heap.size wd) := HS3.out.ok.below hbd HS3.out.ok.lt.2
  have hdz := hbd.size
  rw [hwd] at hHeld ⊢
  clear hwd hbd
  refine wpAnyH_takeD (i := 0) (d := 30) (v := ?_) rfl rfl (by kernel_rfl) (by kernel_rfl) (by kernel_rfl) (fun _ _ _ h => h) (Or.inl ⟨by rfl, ?_⟩) (by assumption) ?_; rotate_left
  · intro W hSw; (try dsimp only at hSw); go_simp; (try with_reducible rfl)
  (try simp only [List.set_cons_zero, List.set_cons_succ])
  refine wpAnyH_takeD (i := 1) (d := 31) (v := ?_) rfl rfl (by kernel_rfl) (by kernel_rfl) (by kernel_rfl) (fun _ _ _ h => h) (Or.inl ⟨by rfl, ?_⟩) (by assumption) ?_; rotate_left
  · intro W hSw; (try dsimp only at hSw); go_simp; (try with_reducible rfl)
  (try simp only [List.set_cons_zero, List.set_cons_succ])
  refine wpAnyH_takeD (i := 2) (d := 32) (v := ?_) rfl rfl (by kernel_rfl) (by kernel_rfl) (by kernel_rfl) (fun _ _ _ h => h) (Or.inl ⟨by rfl, ?_⟩) (by assumption) ?_; rotate_left
  · intro W hSw; (try dsimp only at hSw); go_simp; (try with_reducible rfl)
  (try simp only [List.set_cons_zero, List.set_cons_succ])
  refine wpAnyH_takeD (i := 3) (d := 33) (v := ?_) rfl rfl (by kernel_rfl) (by kernel_rfl) (by kernel_rfl) (fun _ _ _ h => h) (Or.inl ⟨by rfl, ?_⟩) (by assumption) ?_; rotate_left
  · intro W hSw; (try dsimp only at hSw); go_simp; (try with_reducible rfl)
  (try simp only [List.set_cons_zero, List.set_cons_succ])
  refine wpAnyH_takeD (i := 5) (d := 35) (v := ?_) rfl rfl (by kernel_rfl) (by kernel_rfl) (by kernel_rfl) (fun _ _ _ h => h) (Or.inl ⟨by rfl, ?_⟩) (by assumption) ?_; rotate_left
  · intro W hSw; (try dsimp only at hSw); go_simp; (try with_reducible rfl)
  (try simp only [List.set_cons_zero, List.set_cons_succ])
  refine wpAnyH_takeD (i := 6) (d := 36) (v := ?_) rfl rfl (by kernel_rfl) (by kernel_rfl) (by kernel_rfl) (fun _ _ _ h => h) (Or.inl ⟨by rfl, ?_⟩) (by assumption) ?_; rotate_left
  · intro W hSw; (try dsimp only at hSw); go_simp; (try with_reducible rfl)
  (try simp only [List.set_cons_zero, List.set_cons_succ])
  refine wpAnyH_takeD (i := 7) (d := 37) (v := ?_) rfl rfl (by kernel_rfl) (by kernel_rfl) (by kernel_rfl) (fun _ _ _ h => h) (Or.inl ⟨by rfl, ?_⟩) (by assumption) ?_; rotate_left
  · intro W hSw; (try dsimp only at hSw); go_simp; (try with_reducible rfl)
  (try simp only [List.set_cons_zero, List.set_cons_succ])
  refine wpAnyH_takeD (i := 8) (d := 38) (v := ?_) rfl rfl (by kernel_rfl) (by kernel_rfl) (by kernel_rfl) (fun _ _ _ h => h) (Or.inl ⟨by rfl, ?_⟩) (by assumption) ?_; rotate_left
  · intro W hSw; (try dsimp only at hSw); go_simp; (try with_reducible rfl)
  (try simp only [List.set_cons_zero, List.set_cons_succ])
  refine wpAnyH_takeD (i := 9) (d := 39) (v := ?_) rfl rfl (by kernel_rfl) (by kernel_rfl) (by kernel_rfl) (fun _ _ _ h => h) (Or.inl ⟨by rfl, ?_⟩) (by assumption) ?_; rotate_left
  · intro W hSw; (try dsimp only at hSw); go_simp; (try with_reducible rfl)
  (try simp only [List.set_cons_zero, List.set_cons_succ])
  refine wpAnyH_takeD (i := 10) (d := 40) (v := ?_) rfl rfl (by kernel_rfl) (by kernel_rfl) (by kernel_rfl) (fun _ _ _ h => h) (Or.inl ⟨by rfl, ?_⟩) (by assumption) ?_; rotate_left
  · intro W hSw; (try dsimp only at hSw); go_simp; (try with_reducible rfl)
  (try simp only [List.set_cons_zero, List.set_cons_succ])
  refine wpAnyH_takeD (i := 11) (d := 41) (v := ?_) rfl rfl (by kernel_rfl) (by kernel_rfl) (by kernel_rfl) (fun _ _ _ h => h) (Or.inl ⟨by rfl, ?_⟩) (by assumption) ?_; rotate_left
  · intro W hSw; (try dsimp only at hSw); go_simp; (try with_reducible rfl)
  (try simp only [List.set_cons_zero, List.set_cons_succ])
  refine wpAnyH_takeD (i := 17) (d := 47) (v := ?_) rfl rfl (by kernel_rfl) (by kernel_rfl) (by kernel_rfl) (fun _ _ _ h => h) (Or.inl ⟨by rfl, ?_⟩) (by assumption) ?_; rotate_left
  · intro W hSw; (try dsimp only at hSw); go_simp; (try with_reducible rfl)
  (try simp only [List.set_cons_zero, List.set_cons_succ])
  refine wpAnyH_ready (rs := [4]) (by kernel_rfl) (by simp) ?_
  refine AllReadyH.cons rfl (fun K hK => ?_) AllReadyH.nil
  go_simp
  go_at_call 29
  refine (HKK.out _ HBD.out).mono ?_
  rintro e wk ⟨kv, rfl, hko, hkb, -, -⟩
  have HKO : Hid (IntsG w1.heap.size wk kv (kndT TT)) := (intsG_own hko (by have := HKT.out.2; omega)).weak (by omega)
  have MK : Hid (Mv bc w3 wk) := HBD.out.trans (Mv.of_below hkb)
  have OK_ : Hid (CaseOk bc w1.heap.size wk) := OD.out.below hkb OD.out.lt.2
  have hkz := hkb.size
  obtain ⟨ka, kc, rfl⟩ := HKO.out.shape
  have HI3 := Lib.hid (cInt_any bc w1.heap.size 3 wk (by omega) (by omega) OK_.out)
  clear hHeld hko hkb
  refine hK.out _ _ (HK5.out _ MK.out) (fun hHeld => ?_)
  clear hK K
  (try simp only [List.set_cons_zero, List.set_cons_succ])
  refine wpAnyH_ready (rs := [12]) (by kernel_rfl) (by simp) ?_
  refine AllReadyH.cons rfl (fun K hK => ?_) AllReadyH.nil
  go_simp
  refine HI3.out.mono ?_
  rintro e wi ⟨x3, rfl, h30, h31, hm, ho⟩
  obtain ⟨xm, hxm⟩ : ∃ xm : Int, 1 + x3 = xm := ⟨_, rfl⟩
  have HXM : Hid (xm = 1 ∨ xm = 2 ∨ xm = 3) := by show _ ∨ _; omega
  have hwr : IntKind.i64.wrap xm = xm := IntWalk.i64_in _ (by omega)
  have MI : Hid (Mv bc w3 wi) := MK.out.trans hm
  have hiz := hm.size
  have HRO := Lib.hid (cRowG_any bc w1.heap.size w1.heap.size (kndT TT) (.slice ka (kndT TT).length kc) TT.key xm wi ho HKT.out.1 (by have := HKT.out.2; omega) (HKO.out.mv hm hlt) hlt HXM.out)
  clear hm ho HI3 hHeld h30 h31
  refine hK.out _ _ (HK5.out _ MI.out) (fun hHeld => ?_)
  clear hK K
  (try simp only [List.set_cons_zero, List.set_cons_succ])
  refine wpAnyH_takeD (i := 13) (d := 43) (v := ?_) rfl rfl (by kernel_rfl) (by kernel_rfl) (by kernel_rfl) (fun _ _ _ h => h) (Or.inl ⟨by rfl, ?_⟩) (by assumption) ?_; rotate_left
  · intro W hSw; (try dsimp only at hSw); go_simp; (try with_reducible rfl)
  (try simp only [List.set_cons_zero, List.set_cons_succ])
  refine wpAnyH_ready (rs := [14]) (by kernel_rfl) (by simp) ?_
  refine AllReadyH.cons rfl (fun K hK => ?_) AllReadyH.nil
  go_simp
  try rw [hwr]
  refine HRO.out.mono ?_
  rintro e wr4 ⟨rv2, RL2, rfl, hl2, -, hown2, hm, ho⟩
  have MR : Hid (Mv bc w3 wr4) := MI.out.trans hm
  have HR2 : Hid (RowAt wr4 rv2 RL2) := rowAt_own hown2 (by rw [hl2]; have := HKT.out.2; omega)
  have OR_ : Hid (CaseOk bc w1.heap.size wr4) := ho
  obtain ⟨r2a, r2c, er2⟩ := own_slice hown2
  subst er2
  have hrz := hm.size
  clear hm ho hown2 HRO hHeld hl2 hxm hwr
  refine hK.out _ _ (HK5.out _ MR.out) (fun hHeld => ?_)
  clear hK K
  (try simp only [List.set_cons_zero, List.set_cons_succ])
  refine wpAnyH_ready (rs := [15]) (by kernel_rfl) (by simp) ?_
  refine AllReadyH.cons rfl (fun K hK => ?_) AllReadyH.nil
  go_simp
  obtain ⟨wl, hwl⟩ : ∃ wl, wr4.alloc (.cells #[.slice ra rn rc, .slice r2a RL2.length r2c] 38) = wl := ⟨_, rfl⟩
  obtain ⟨bl, hbl⟩ : ∃ bl, wr4.heap.size = bl := ⟨_, rfl⟩
  have BL : Below wr4.heap.size wr4 wl := by rw [← hwl]; exact (Below.refl _ _).alloc (Nat.le_refl _) _
  have hblw : bl < wl.heap.size := by rw [← hwl, ← hbl]; simp
  have l0 : wl.cell? ⟨bl, 0, none⟩ = some (.slice ra rn rc) := by subst hwl; subst hbl; go_simp
  have l1 : wl.cell? ⟨bl, 1, none⟩ = some (.slice r2a RL2.length r2c) := by subst hwl; subst hbl; go_simp
  have ML : Hid (Mv bc w3 wl) := MR.out.trans (Mv.of_below BL)
  have HWL : Hid (Below w.heap.size w wl) := B1.out.trans (((MB.out.trans (M3.out.trans ML.out)).below (B := w.heap.size) (by omega) (by omega)))
  have HROW : Hid (∀ k, k < 2 → ∃ a n c L, wl.cell? ⟨bl, k, none⟩ = some (.slice a n c) ∧ RowAt wl (.slice a n c) L) := fun k hk => by
    have hk2 : k = 0 ∨ k = 1 := by omega
    rcases hk2 with rfl | rfl
    · exact ⟨_, _, _, RL, l0, HRV.out.blw HWL.out⟩
    · exact ⟨_, _, _, RL2, l1, HR2.out.blw BL⟩
  rw [hwl, hbl]
  clear hwl hbl BL l0 l1 hHeld HR2
  refine hK.out _ _ (HK5.out _ ML.out) (fun hHeld => ?_)
  clear hK K
  (try simp only [List.set_cons_zero, List.set_cons_succ])
  refine wpAnyH_takeD (i := 16) (d := 46) (v := ?_) rfl rfl (by kernel_rfl) (by kernel_rfl) (by kernel_rfl) (fun _ _ _ h => h) (Or.inl ⟨by rfl, ?_⟩) (by assumption) ?_; rotate_left
  · intro W hSw; (try dsimp only at hSw); go_simp; (try with_reducible rfl)
  (try simp only [List.set_cons_zero, List.set_cons_succ])
  clear hHeld
  refine wpAnyH_done (by kernel_rfl) ?_ _
  have HQL : Hid (∀ W, Below wl.heap.size wl W → W.cell? ⟨bx, 0, none⟩ = some (.int .i64 ver) ∧ W.cell? ⟨bx, 1, none⟩ = some (.slice (some ⟨tb, 0, none⟩) n 4)) := fun W hb => HQ.out W (M3.out.trans (ML.out.trans (Mv.of_below hb)))
  have HSL : Hid (∀ W, Below wl.heap.size wl W → Sc (fun b => lo ≤ b) W (.agg #[.int .i64 ver, .slice (some ⟨tb, 0, none⟩) n 4]) (cSC n id ver rs1 rs2 rs3 ck)) := fun W hb => HSC.out W (ML.out.trans (Mv.of_below hb))
  have HTS : Hid (∀ W, Below wl.heap.size wl W → SlR tabK (fun b => lo ≤ b) W (.slice (some ⟨tb, 0, none⟩) n 4) (cSC n id ver rs1 rs2 rs3 ck).ts) := fun W hb => by
    obtain ⟨tv, e, h⟩ := HSL.out W hb
    simp only [Value.agg.injEq, Array.mk.injEq, List.cons.injEq, and_true] at e
    rw [e.2]; exact h
  have hbxl : bx < wl.heap.size := by have := ML.out.size; omega
  clear HK5 HKK HKC HSC HQ HS3 MR MI MK OR_ OK_ OD HBD HKO HRV HXM ML
  go_wp2_with fail
  go_loopw [47] (fun i wr => ∃ k : Nat, k ≤ 2 ∧ i = .int .i64 k ∧ Hid (Below wl.heap.size wl wr)) (fun i _ => 2 - (intOf i).toNat)
  case atStart => exact ⟨0, by omega, rfl, Below.refl _ _⟩
  case round =>
    obtain ⟨k, hk, rfl, HX⟩ := hrel
    have hzz := HX.out.size
    obtain ⟨q0, q1⟩ := HQL.out wr HX.out
    by_cases hk2 : k < 2
    · have hk2' : (k : Int) < 2 := by omega
      obtain ⟨fa, fn, fc, FL, f0, hfr⟩ := HROW.out k hk2
      replace f0 := (HX.out.cell (p := ⟨bl, k, none⟩) hblw).trans f0
      have HFR := Lib.hid hfr
      obtain ⟨y1, hy1⟩ : ∃ y, fitsT (cSC n id ver rs1 rs2 rs3 ck) t FL 1 = y := ⟨_, rfl⟩
      have HF1 : Hid (∀ W, Below wr.heap.size wr W → Calls Try.prog 38 #[.agg #[.int .i64 ver, .slice (some ⟨tb, 0, none⟩) n 4], .int .i64 t, .slice fa fn fc, .int .i64 1] W fun e w' => e = .returned (.bool y1) ∧ Below W.heap.size W w') := fun W hb => by
        have h := sFits_any _ _ t _ FL 1 W (HSL.out W (below_go HX.out hb)) (HFR.out.blw (below_go HX.out hb))
        rw [hy1] at h; exact h
      obtain ⟨y2, hy2⟩ : ∃ y, fitsT (cSC n id ver rs1 rs2 rs3 ck) t FL 2 = y := ⟨_, rfl⟩
      have HF2 : Hid (∀ W, Below wr.heap.size wr W → Calls Try.prog 38 #[.agg #[.int .i64 ver, .slice (some ⟨tb, 0, none⟩) n 4], .int .i64 t, .slice fa fn fc, .int .i64 2] W fun e w' => e = .returned (.bool y2) ∧ Below W.heap.size W w') := fun W hb => by
        have h := sFits_any _ _ t _ FL 2 W (HSL.out W (below_go HX.out hb)) (HFR.out.blw (below_go HX.out hb))
        rw [hy2] at h; exact h
      obtain ⟨y3, hy3⟩ : ∃ y, fitsT (cSC n id ver rs1 rs2 rs3 ck) t FL 3 = y := ⟨_, rfl⟩
      have HF3 : Hid (∀ W, Below wr.heap.size wr W → Calls Try.prog 38 #[.agg #[.int .i64 ver, .slice (some ⟨tb, 0, none⟩) n 4], .int .i64 t, .slice fa fn fc, .int .i64 3] W fun e w' => e = .returned (.bool y3) ∧ Below W.heap.size W w') := fun W hb => by
        have h := sFits_any _ _ t _ FL 3 W (HSL.out W (below_go HX.out hb)) (HFR.out.blw (below_go HX.out hb))
        rw [hy3] at h; exact h
      have hc : (y1 = false ∧ y2 = false) ∨ (y1 = false ∧ y2 = true ∧ y3 = true) ∨ (y1 = true ∧ y2 = true ∧ y3 = true) := by
        have h12 : y1 = true → y2 = true := fun h => by rw [← hy2]; exact fitsT_mode (.inl ⟨rfl, rfl⟩) (hy1.trans h)
        have h23 : y2 = true → y3 = true := fun h => by rw [← hy3]; exact fitsT_mode (.inr ⟨rfl, rfl⟩) (hy2.trans h)
        cases y1 <;> cases y2 <;> cases y3 <;> simp_all
      have HC := Lib.hid hc
      clear hy1 hy2 hy3 hfr hc
      go_upto_region 7 with fail
      have HK7 : Hid (∀ W, Below wr.heap.size wr W → W.cell? ⟨bx, 0, none⟩ = some (.int .i64 ver) ∧ W.cell? ⟨bx, 1, none⟩ = some (.slice (some ⟨tb, 0, none⟩) n 4)) := fun W hb => HQL.out W (below_go HX.out hb)
      refine wp_region_held_drew (S := fun W => W.cell? ⟨bx, 0, none⟩ = some (.int .i64 ver) ∧ W.cell? ⟨bx, 1, none⟩ = some (.slice (some ⟨tb, 0, none⟩) n 4)) (by kernel_rfl) (HK7.out _ (Below.refl _ _).drew) (fun hHeld => ?_)
      obtain ⟨wd, hwd⟩ : ∃ wd, wr.drew = wd := ⟨_, rfl⟩
      have BW : Hid (Below wr.heap.size wr wd) := by rw [← hwd]; exact (Below.refl _ _).drew
      rw [hwd] at hHeld ⊢
      clear hwd
      refine wpAnyH_takeD (i := 0) (d := 51) (v := ?_) rfl rfl (by kernel_rfl) (by kernel_rfl) (by kernel_rfl) (fun _ _ _ h => h) (Or.inl ⟨by rfl, ?_⟩) (by assumption) ?_; rotate_left
      · intro W hSw; (try dsimp only at hSw); go_simp; (try with_reducible rfl)
      (try simp only [List.set_cons_zero, List.set_cons_succ])
      refine wpAnyH_takeD (i := 1) (d := 52) (v := ?_) rfl rfl (by kernel_rfl) (by kernel_rfl) (by kernel_rfl) (fun _ _ _ h => h) (Or.inl ⟨by rfl, ?_⟩) (by assumption) ?_; rotate_left
      · intro W hSw; (try dsimp only at hSw); go_simp; (try with_reducible rfl)
      (try simp only [List.set_cons_zero, List.set_cons_succ])
      refine wpAnyH_takeD (i := 2) (d := 53) (v := ?_) rfl rfl (by kernel_rfl) (by kernel_rfl) (by kernel_rfl) (fun _ _ _ h => h) (Or.inl ⟨by rfl, ?_⟩) (by assumption) ?_; rotate_left
      · intro W hSw; (try dsimp only at hSw); go_simp; (try with_reducible rfl)
      (try simp only [List.set_cons_zero, List.set_cons_succ])
      refine wpAnyH_takeD (i := 4) (d := 55) (v := ?_) rfl rfl (by kernel_rfl) (by kernel_rfl) (by kernel_rfl) (fun _ _ _ h => h) (Or.inl ⟨by rfl, ?_⟩) (by assumption) ?_; rotate_left
      · intro W hSw; (try dsimp only at hSw); go_simp; (try with_reducible rfl)
      (try simp only [List.set_cons_zero, List.set_cons_succ])
      refine wpAnyH_takeD (i := 5) (d := 56) (v := ?_) rfl rfl (by kernel_rfl) (by kernel_rfl) (by kernel_rfl) (fun _ _ _ h => h) (Or.inl ⟨by rfl, ?_⟩) (by assumption) ?_; rotate_left
      · intro W hSw; (try dsimp only at hSw); go_simp; (try with_reducible rfl)
      (try simp only [List.set_cons_zero, List.set_cons_succ])
      refine wpAnyH_takeD (i := 6) (d := 57) (v := ?_) rfl rfl (by kernel_rfl) (by kernel_rfl) (by kernel_rfl) (fun _ _ _ h => h) (Or.inl ⟨by rfl, ?_⟩) (by assumption) ?_; rotate_left
      · intro W hSw; (try dsimp only at hSw); go_simp; (try with_reducible rfl)
      (try simp only [List.set_cons_zero, List.set_cons_succ])
      refine wpAnyH_takeD (i := 8) (d := 59) (v := ?_) rfl rfl (by kernel_rfl) (by kernel_rfl) (by kernel_rfl) (fun _ _ _ h => h) (Or.inl ⟨by rfl, ?_⟩) (by assumption) ?_; rotate_left
      · intro W hSw; (try dsimp only at hSw); go_simp; (try with_reducible rfl)
      (try simp only [List.set_cons_zero, List.set_cons_succ])
      refine wpAnyH_takeD (i := 9) (d := 60) (v := ?_) rfl rfl (by kernel_rfl) (by kernel_rfl) (by kernel_rfl) (fun _ _ _ h => h) (Or.inl ⟨by rfl, ?_⟩) (by assumption) ?_; rotate_left
      · intro W hSw; (try dsimp only at hSw); go_simp; (try with_reducible rfl)
      (try simp only [List.set_cons_zero, List.set_cons_succ])
      refine wpAnyH_takeD (i := 10) (d := 61) (v := ?_) rfl rfl (by kernel_rfl) (by kernel_rfl) (by kernel_rfl) (fun _ _ _ h => h) (Or.inl ⟨by rfl, ?_⟩) (by assumption) ?_; rotate_left
      · intro W hSw; (try dsimp only at hSw); go_simp; (try with_reducible rfl)
      (try simp only [List.set_cons_zero, List.set_cons_succ])
      refine wpAnyH_ready (rs := [3]) (by kernel_rfl) (by simp) ?_
      refine AllReadyH.cons rfl (fun K hK => ?_) AllReadyH.nil
      go_simp
      go_at_call 38
      refine (HF1.out _ BW.out).mono ?_
      rintro e w_3 ⟨rfl, hg⟩
      clear hHeld
      replace BW := Lib.hid (below_go BW.out hg)
      clear hg
      refine hK.out _ _ (HK7.out _ BW.out) (fun hHeld => ?_)
      clear hK K
      (try simp only [List.set_cons_zero, List.set_cons_succ])
      refine wpAnyH_ready (rs := [7]) (by kernel_rfl) (by simp) ?_
      refine AllReadyH.cons rfl (fun K hK => ?_) AllReadyH.nil
      go_simp
      go_at_call 38
      refine (HF2.out _ BW.out).mono ?_
      rintro e w_7 ⟨rfl, hg⟩
      clear hHeld
      replace BW := Lib.hid (below_go BW.out hg)
      clear hg
      refine hK.out _ _ (HK7.out _ BW.out) (fun hHeld => ?_)
      clear hK K
      (try simp only [List.set_cons_zero, List.set_cons_succ])
      refine wpAnyH_ready (rs := [11]) (by kernel_rfl) (by simp) ?_
      refine AllReadyH.cons rfl (fun K hK => ?_) AllReadyH.nil
      go_simp
      go_at_call 38
      refine (HF3.out _ BW.out).mono ?_
      rintro e w_11 ⟨rfl, hg⟩
      clear hHeld
      replace BW := Lib.hid (below_go BW.out hg)
      clear hg
      refine hK.out _ _ (HK7.out _ BW.out) (fun hHeld => ?_)
      clear hK K
      (try simp only [List.set_cons_zero, List.set_cons_succ])
      refine wpAnyH_takeD (i := 12) (d := 10) (v := ?_) rfl rfl (by kernel_rfl) (by kernel_rfl) (by kernel_rfl) (fun _ _ _ h => h) (Or.inl ⟨by rfl, ?_⟩) (by assumption) ?_; rotate_left
      · intro W hSw; (try dsimp only at hSw); go_simp; (try with_reducible rfl)
      (try simp only [List.set_cons_zero, List.set_cons_succ])
      refine wpAnyH_takeD (i := 13) (d := 11) (v := ?_) rfl rfl (by kernel_rfl) (by kernel_rfl) (by kernel_rfl) (fun _ _ _ h => h) (Or.inl ⟨by rfl, ?_⟩) (by assumption) ?_; rotate_left
      · intro W hSw; (try dsimp only at hSw); go_simp; (try with_reducible rfl)
      (try simp only [List.set_cons_zero, List.set_cons_succ])
      refine wpAnyH_takeD (i := 14) (d := 12) (v := ?_) rfl rfl (by kernel_rfl) (by kernel_rfl) (by kernel_rfl) (fun _ _ _ h => h) (Or.inl ⟨by rfl, ?_⟩) (by assumption) ?_; rotate_left
      · intro W hSw; (try dsimp only at hSw); go_simp; (try with_reducible rfl)
      (try simp only [List.set_cons_zero, List.set_cons_succ])
      clear hHeld
      refine wpAnyH_done (by kernel_rfl) ?_ _
      have HX2 : Hid (Below wl.heap.size wl w_11) := below_go HX.out BW.out
      clear BW HF1 HF2 HF3 HK7 HX f0
      rcases HC.out with ⟨rfl, rfl⟩ | ⟨rfl, rfl, rfl⟩ | ⟨rfl, rfl, rfl⟩
      all_goals
        clear HC
        go_wp2_with fail
        go_roundw
        case rel => exact ⟨k + 1, by omega, by go_num, HX2⟩
        case measure => simp [intOf]; omega
    · have hke : k = 2 := by omega
      subst hke
      clear HROW
      obtain ⟨wE, rfl⟩ : ∃ x, x = wr := ⟨wr, rfl⟩
      go_wp2_with fail
      go_loopw [79] (fun i wr => ∃ k : Nat, k ≤ n ∧ i = .int .i64 k ∧ Hid (Below wl.heap.size wl wr)) (fun i _ => n - (intOf i).toNat)
      case atStart => exact ⟨0, by omega, rfl, HX⟩
      case round =>
        obtain ⟨wF, rfl⟩ : ∃ x, x = wr := ⟨wr, rfl⟩
        clear HX
        obtain ⟨k, hk, rfl, HX⟩ := hrel
        have hzz := HX.out.size
        obtain ⟨q0, q1⟩ := HQL.out wF HX.out
        by_cases hkn : k < n
        · have hkn' : (k : Int) < n := by omega
          have hkc : k < (cSC n id ver rs1 rs2 rs3 ck).ts.length := by rw [HCL.out]; exact hkn
          obtain ⟨b, off, e, -, hb, ca, cc, ga, gc, pa, pc, c0, c1, c2, c3, c4, htb⟩ := tab_get (HTS.out wF HX.out) hkc
          simp only [Option.some.injEq, Addr.mk.injEq, and_true] at e
          obtain ⟨rfl, rfl⟩ := e
          simp only [Nat.zero_add] at c0 c1 c2 c3 c4
          have HG : Hid (∀ r ∈ (cSC n id ver rs1 rs2 rs3 ck).ts[k].rs, refGood (cSC n id ver rs1 rs2 rs3 ck) (cSC n id ver rs1 rs2 rs3 ck).ts[k] r) := fun r hr => case_good HSO.out _ (List.getElem_mem hkc) r hr
          have HTK : Hid (tbAt (cSC n id ver rs1 rs2 rs3 ck) k = (cSC n id ver rs1 rs2 rs3 ck).ts[k]) := tbAt_in hkc
          have HKL : Hid ((kndT (cSC n id ver rs1 rs2 rs3 ck).ts[k]).length ≤ 4) := (case_kinds HSO.out _ (List.getElem_mem hkc)).2.1
          have HRE := Lib.hid htb.refs
          have hrf := htb.refs.shape
          obtain ⟨_, _, _, hrf⟩ := hrf
          have hrf := hrf.few
          clear htb
          generalize (cSC n id ver rs1 rs2 rs3 ck).ts[k] = T2 at *
          obtain ⟨gn, hgn⟩ : ∃ gn, T2.rs.length = gn := ⟨_, rfl⟩
          have HGN := Lib.hid hgn
          rw [hgn] at HRE c3 hrf
          generalize T2.cs.length = x1 at *
          generalize T2.ck.length = x4 at *
          have HXT : Hid (∀ O, Below wl.heap.size wl (wF.alloc O)) := fun O => HX.out.alloc hzz O
          have hFs : ∀ O, (wF.alloc O).heap.size = wF.heap.size + 1 := fun O => by simp
          clear hgn hFs
          go_wp2_with fail
          go_loopw [87] (fun i wr => ∃ j : Nat, j ≤ gn ∧ i = .int .i64 j ∧ Hid (Below wl.heap.size wl wr) ∧ Hid (Below wF.heap.size wF wr)) (fun i _ => gn - (intOf i).toNat)
          case atStart => exact ⟨0, by omega, rfl, HXT.out _, (Below.refl _ _).alloc (Nat.le_refl _) _⟩
          case round =>
            obtain ⟨wG, rfl⟩ : ∃ x, x = wr := ⟨wr, rfl⟩
            obtain ⟨j, hj, rfl, HY, HYF⟩ := hrel
            have hyz := HY.out.size
            obtain ⟨q0, q1⟩ := HQL.out wG HY.out
            have hbxg : bx < wG.heap.size := by omega
            by_cases hjn : j < gn
            · have hjn' : (j : Int) < gn := by omega
              have hjc : j < T2.rs.length := by rw [HGN.out]; exact hjn
              obtain ⟨rb, ro, rfl, -, hrb, ia, ic, r0, r1, hri⟩ := ref_get (HRE.out.below HYF.out) hjc
              have HGR := Lib.hid (HG.out _ (List.getElem_mem hjc))
              obtain ⟨RR, hRR⟩ : ∃ RR, T2.rs[j] = RR := ⟨_, rfl⟩
              rw [hRR] at r0 r1 hri HGR
              obtain ⟨im, him⟩ : ∃ im, RR.c.length = im := ⟨_, rfl⟩
              have HIM := Lib.hid him
              rw [him] at r0 hri
              have himf : im ≤ 17592186044416 := by obtain ⟨_, _, _, hf⟩ := hri.shape; have := hf.few; omega
              have HRI := Lib.hid hri.ints
              obtain ⟨wh, hwh⟩ : ∃ wh, wG.alloc (.cells #[.slice ia im ic, .int .i64 RR.t] 72) = wh := ⟨_, rfl⟩
              have hhs : wh.heap.size = wG.heap.size + 1 := by rw [← hwh]; simp
              have u0 : wh.cell? ⟨wG.heap.size, 0, none⟩ = some (.slice ia im ic) := by subst hwh; go_simp
              have u1 : wh.cell? ⟨wG.heap.size, 1, none⟩ = some (.int .i64 RR.t) := by subst hwh; go_simp
              have HU : Hid (∀ W, Below wh.heap.size wh W → W.cell? ⟨wG.heap.size, 0, none⟩ = some (.slice ia im ic) ∧ W.cell? ⟨wG.heap.size, 1, none⟩ = some (.int .i64 RR.t)) := fun W hb => ⟨(hb.cell (p := ⟨wG.heap.size, 0, none⟩) (show wG.heap.size < _ by omega)).trans u0, (hb.cell (p := ⟨wG.heap.size, 1, none⟩) (show wG.heap.size < _ by omega)).trans u1⟩
              have HGH : Hid (Below wG.heap.size wG wh) := by rw [← hwh]; exact (Below.refl _ _).alloc (Nat.le_refl _) _
              have HYH : Hid (Below wl.heap.size wl wh) := below_go HY.out HGH.out
              have HKS : Hid (Calls Try.prog 28 #[.agg #[.int .i64 ver, .slice (some ⟨tb, 0, none⟩) n 4], .int .i64 k] wh (KndPost (kndT T2) wh)) := by
                have h := sKinds_any _ _ k wh (HSL.out wh HYH.out)
                rw [HTK.out] at h; exact h
              have HWH := Lib.hid hwh
              clear hRR him hri hwh u0 u1
              go_wp2_with fail
              rw [HWH.out]
              refine HKS.out.mono ?_
              rintro e wi ⟨kv, rfl, hki, hkb⟩
              obtain ⟨ka2, kc2, rfl⟩ := hki.shape
              have HKI : Hid (IntsAt wi (.slice ka2 (kndT T2).length kc2) (kndT T2)) := hki.at
              have HYI : Hid (Below wl.heap.size wl wi) := below_go HYH.out hkb
              have HHI : Hid (Below wh.heap.size wh wi) := hkb
              have hiz := hkb.size
              obtain ⟨kl, hkl⟩ : ∃ kl, (kndT T2).length = kl := ⟨_, rfl⟩
              have HKLN := Lib.hid hkl
              rw [hkl] at HKI ⊢
              obtain ⟨v0, v1⟩ := HU.out wi hkb
              clear hki hkb HKS HWH r0 r1 hkl
              have hinfo : (Try.prog.info? 3).map (fun i => (i.zero, i.size, i.bytes)) = some (some (.int .i64 0), 1, 8) := by kernel_rfl
              obtain ⟨i0, hi, hz0, hz1, hz2⟩ := info_parts hinfo
              have HI0 := Lib.hid hi
              have HZ0 := Lib.hid hz0
              have HZ1 := Lib.hid hz1
              have HZ2 := Lib.hid hz2
              clear hi hz0 hz1 hz2 hinfo
              go_wp2_with fail
              go_loopw [17, 97] (fun v i wr => ∃ q : Nat, q ≤ im ∧ i = .int .i64 q ∧ Hid (wr.ownsRow wi.heap.size 3 1 v q (iC ((RR.c.take q).map (atI (kndT T2))))) ∧ Hid (Below wi.heap.size wi wr)) (fun _ i _ => im - (intOf i).toNat)
              case atStart => exact ⟨0, by omega, rfl, World.ownsRow_nil _ _ _ _, Below.refl _ _⟩
              case round =>
                obtain ⟨q, hq, rfl, HO, HV⟩ := hrel
                have hvz := HV.out.size
                obtain ⟨va, vc, hv5⟩ := own_slice HO.out
                subst hv5
                by_cases hqm : q < im
                · have hqm' : (q : Int) < im := by omega
                  have hqc : q < RR.c.length := by rw [HIM.out]; exact hqm
                  obtain ⟨ia2, ic2, e, -, hic⟩ := HRI.out.blw (below_go HGH.out (below_go HHI.out HV.out))
                  simp only [Value.slice.injEq] at e
                  obtain ⟨rfl, -, rfl⟩ := e
                  obtain ⟨ib, io, rfl, hib, d0⟩ := hic q hqc
                  obtain ⟨xc, hxc, hxK⟩ := inB_true (HGR.out.1 _ (List.getElem_mem hqc))
                  rw [hxc] at d0
                  have hxl : xc < kl := by rw [← HKLN.out]; exact hxK
                  obtain ⟨kb2, kd2, e, -, hkcl⟩ := HKI.out.blw HV.out
                  simp only [Value.slice.injEq] at e
                  obtain ⟨rfl, -, rfl⟩ := e
                  obtain ⟨kb, ko, rfl, hkb, k0⟩ := hkcl xc hxK
                  have e1 : iC ((RR.c.take q).map (atI (kndT T2))) ++ [.int .i64 (kndT T2)[xc]] = iC ((RR.c.take (q + 1)).map (atI (kndT T2))) := by
                    rw [List.take_succ_eq_append_getElem hqc, List.map_append, iC_app, hxc]; show _ = _ ++ [Value.int .i64 (atI (kndT T2) xc)]; rw [atI_in hxK]
                  have HE := Lib.hid e1
                  generalize (kndT T2)[xc] = x9 at *
                  have hxl2 : (xc : Int) < kl := by omega
                  have d1 : decide ((kl : Int) ≤ xc) = false := decide_eq_false (by omega)
                  have d2 : decide (kl ≤ xc) = false := decide_eq_false (by omega)
                  have A1 : Hid (q + 1 ≤ maxLen) := by show _ ≤ _; unfold maxLen; omega
                  have A2 : Hid ((q + 1) * 8 ≤ 140737488355328) := by show _ ≤ _; omega
                  have A3 : Hid (∀ O : Obj, wi.heap.size ≤ (wr.alloc O).heap.size) := fun O => by simp; omega
                  have A4 : Hid (∀ t (j : Nat) (u : Value), ([.int .i64 x9] : List Value)[j]? = some u → (wr.alloc (.cells #[.int .i64 x9] t)).cell? ((⟨wr.heap.size, 0, none⟩ : Addr).add j) = some u) := fun t => one_cell wr _ t
                  have A5 : Hid (∀ u ∈ ([.int .i64 x9] : List Value), u.oneCell' = true) := by intro u hu; simp only [List.mem_singleton] at hu; subst hu; rfl
                  have A6 : Hid (∀ (O : Obj) (v' : Value) (w2 : World), w2.ownsRow wi.heap.size 3 1 v' (q + 1) (iC ((RR.c.take q).map (atI (kndT T2))) ++ [.int .i64 x9]) → (wr.alloc O).grownBy w2 (Value.slice va q vc).ownBlock → (w2.ownsRow wi.heap.size 3 1 v' (q + 1) (iC ((RR.c.take (q + 1)).map (atI (kndT T2)))) ∧ Below wi.heap.size wi w2)) := fun O v' w2 h1 h2 => by
                    have hkr := HO.out.lt
                    exact ⟨by rw [← HE.out]; exact h1, (HV.out.alloc hvz O).trans ((Below.refl _ _).grown h2 (by simp; omega) (fun kk e => (hkr kk e).1))⟩
                  clear e1 hic hkcl hxc HE
                  go_wp2_with (at_builtin; refine wpList_append_own _ rfl _ _ 32 rfl wi.heap.size 3 i0 (.int .i64 0) 1 8 Try.underlying32 HI0.out HZ0.out HZ1.out HZ2.out rfl (by decide) _ _ _ rfl (HO.out.alloc _) ⟨wr.heap.size, 0, none⟩ 1 1 [.int .i64 x9] rfl rfl (A4.out _) A5.out A1.out A2.out (A3.out _) ?_; intro v' w2 hown2 hgr _; have HXX := Lib.hid (A6.out _ v' w2 hown2 hgr); clear hown2 hgr)
                  go_roundw
                  case rel => exact ⟨q + 1, by omega, by go_num, HXX.out.1, HXX.out.2⟩
                  case measure => simp [intOf]; omega
                · have hqe : q = im := by omega
                  subst hqe
                  have HYV : Hid (Below wl.heap.size wl wr) := below_go HYI.out HV.out
                  obtain ⟨q0, q1⟩ := HQL.out wr HYV.out
                  obtain ⟨v0, v1⟩ := HU.out wr (below_go HHI.out HV.out)
                  have HLV : Hid (IntsAt wr (.slice va q vc) (keyK (tbAt (cSC n id ver rs1 rs2 rs3 ck) RR.t))) := by
                    have h := HO.out
                    rw [List.take_of_length_le (by rw [HIM.out]; exact Nat.le_refl _), HGR.out.2] at h
                    have hl : (keyK (tbAt (cSC n id ver rs1 rs2 rs3 ck) RR.t)).length = q := by rw [← HGR.out.2, List.length_map, HIM.out]
                    rw [← hl] at h ⊢
                    exact (intsG_own h (by rw [hl]; exact himf)).at
                  have HKQ := Lib.hid (sKeyKinds_any _ _ RR.t wr (HSL.out wr HYV.out))
                  generalize hKY : keyK (tbAt (cSC n id ver rs1 rs2 rs3 ck) RR.t) = KY at *
                  have HKQ2 : Hid (Calls Try.prog 30 #[.agg #[.int .i64 ver, .slice (some ⟨tb, 0, none⟩) n 4], .int .i64 RR.t] wr (KndPost KY wr)) := by rw [← hKY]; exact HKQ.out
                  clear HKQ hKY HO
                  go_wp2_with fail
                  refine HKQ2.out.mono ?_
                  rintro e wx ⟨kv2, rfl, hki2, hkb2⟩
                  have HSM := Lib.hid (l7Same_t (.slice va q vc) kv2 KY wx (HLV.out.blw hkb2) hki2.at)
                  have HYX : Hid (Below wl.heap.size wl wx) := below_go HYV.out hkb2
                  have HFX : Hid (Below wF.heap.size wF wx) := below_go HYF.out (below_go HGH.out (below_go HHI.out (below_go HV.out hkb2)))
                  clear hki2 hkb2 HKQ2
                  go_wp2_with fail
                  refine HSM.out.mono ?_
                  rintro e wy ⟨rfl, hb⟩
                  have HYY : Hid (Below wl.heap.size wl wy) := below_go HYX.out hb
                  have HFY : Hid (Below wF.heap.size wF wy) := below_go HFX.out hb
                  clear hb HSM
                  go_wp2_with fail
                  go_roundw
                  case rel => first | exact ⟨j + 1, by omega, by go_num, HYY, HFY⟩ | ((repeat apply Exists.intro); exact ⟨⟨j + 1, by omega, by go_num, HYY, HFY⟩, rfl⟩)
                  case measure => simp [intOf]; omega
            · have hje : j = gn := by omega
              subst hje
              go_wp2_with fail
              go_roundw
              case rel => exact ⟨k + 1, by omega, by go_num, HY⟩
              case measure => simp [intOf]; omega
        · have hke : k = n := by omega
          subst hke
          have HBW := Lib.hid (HBG.out wF)
          go_wp2_with fail
          refine HBW.out.mono ?_
          rintro e wf ⟨rfl, hb⟩
          have HZ : Hid (Below w.heap.size w wf) := below_go HWL.out (below_go HX.out hb)
          clear hb HBW
          go_wp2_with fail
          go_ret
          exact ⟨rfl, HZ.out⟩
end Go.Proofs.Ytjkjmkplcjfogaa
