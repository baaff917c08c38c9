/- Law SchemaFits. -/
import Derived.Test.YtjkjmkplcjfogaaCSchema
import Derived.Test.YtjkjmkplcjfogaaPdNew
import Derived.Test.YtjkjmkplcjfogaaScBegun
import Derived.Test.YtjkjmkplcjfogaaScRFits
import Derived.Test.YtjkjmkplcjfogaaPdColLaw
import Derived.Test.YtjkjmkplcjfogaaPdBindMem
namespace Go.Proofs.Ytjkjmkplcjfogaa
open Go.RowKit Go.Deep

theorem rowAt_ownF {w : World} {base : Nat} {v : Value} {l : List V} (h : w.ownsRow base 24 3 v l.length (cellsOf l)) (hl : l.length ≤ 4398046511104) : RowAt w v l := (rowT_own h hl).rowB.at (Nat.le_refl _)
theorem SInv.tabAtF {bc B lo sb tb n : Nat} {w0 W : World} {ver : Int} {TS : List TB} (h : SInv bc B lo w0 sb tb n ver TS W) {j : Nat} (hj : j < TS.length) : W.cell? ⟨tb, j * 5 + 2, none⟩ = some (.int .i64 TS[j].key) := by
  obtain ⟨_, _, _, _, ⟨-, -, c2, -, -⟩, -⟩ := h.tabs j hj
  exact c2
theorem fitL_of {K : List CL} {key mode : Int} : ∀ (l : List V) (k : Nat), l.length + k = K.length → (∀ j (h : j < l.length) (h' : j + k < K.length), fitB K[j + k].k (j + k) key mode l[j] = true) → fitL key mode k (K.drop k) l = true
  | [], k, _, _ => by cases K.drop k <;> rfl
  | v :: l, k, hl, h => by
    have hk : k < K.length := by simp at hl; omega
    rw [List.drop_eq_getElem_cons hk, fitL, Bool.and_eq_true]
    refine ⟨by have := h 0 (by simp) (by omega); simpa using this, fitL_of l (k + 1) (by simp at hl; omega) fun j hj hj' => ?_⟩
    have := h (j + 1) (by simp; omega) (by omega)
    have e : j + 1 + k = j + (k + 1) := by omega
    simp only [e, List.getElem_cons_succ] at this
    exact this
theorem fitsT_of {s : SC} {t : Nat} {T : TB} (ht : inT s t = true) (hT : tbAt s t = T) {l : List V} {m : Int} (hm : m = 1 ∨ m = 2 ∨ m = 3) (hl : l.length = (kndT T).length) (hf : FitP (kndT T) T.key m l) : fitsT s t l m = true := by
  unfold fitsT
  rw [ht, hT, decide_eq_true (p := 1 ≤ m ∧ m ≤ 3) (by omega)]
  have hl2 : l.length = T.cs.length := by rw [hl]; unfold kndT; simp
  rw [decide_eq_true hl2]
  have := fitL_of (K := T.cs) (key := T.key) (mode := m) l 0 (by simpa using hl2) (fun j hj hj' => by
    have := hf j hj (by unfold kndT; simpa using hj')
    unfold kndT at this
    simpa using this)
  simpa using this
theorem fitsT_len {s : SC} {t : Nat} {T : TB} (hT : tbAt s t = T) {l : List V} {m : Int} (hl : l.length ≠ (kndT T).length) : fitsT s t l m = false := by
  unfold fitsT
  rw [hT, decide_eq_false (p := l.length = T.cs.length) (by intro e; exact hl (by rw [e]; unfold kndT; simp))]
  simp

set_option linter.unusedSimpArgs false in
set_option maxRecDepth 100000 in
set_option maxHeartbeats 8000000 in
theorem sfits_walk (cv : Value) (cn : Nat) (rwv : Value) (RS : SC) (ti mi : Int) (ra : Option Addr) (rn rc : Nat) (RL : List V) (w : World) (hcv : BytesAt w cv cn) (hrs : Sc (fun _ => True) w rwv RS) (hrv : RowAt w (.slice ra rn rc) RL) : Calls Try.prog 7 #[cv, rwv, .int .i64 ti, .int .i64 mi, .slice ra rn rc] w fun e w' => e = .returned (.bool true) ∧ Below w.heap.size w w' := by
  have HRS := Lib.hid hrs
  obtain ⟨rtv, rfl, hrsl⟩ := hrs
  obtain ⟨rta, rtc, rfl, -⟩ := hrsl.shape
  obtain ⟨rtn, hrtn⟩ : ∃ rtn, RS.ts.length = rtn := ⟨_, rfl⟩
  obtain ⟨rver, hrver⟩ : ∃ rver, RS.ver = rver := ⟨_, rfl⟩
  rw [hrtn, hrver] at HRS ⊢
  obtain ⟨wa, hwa⟩ : ∃ wa, w.alloc (.cells #[.int .i64 rver, .slice rta rtn rtc] 45) = wa := ⟨_, rfl⟩
  have HWA : Hid (Below w.heap.size w wa) := by rw [← hwa]; exact (Below.refl _ _).alloc (Nat.le_refl _) _
  have hwas : wa.heap.size = w.heap.size + 1 := by rw [← hwa]; simp
  have z0 : wa.cell? ⟨w.heap.size, 0, none⟩ = some (.int .i64 rver) := by subst hwa; go_simp
  have z1 : wa.cell? ⟨w.heap.size, 1, none⟩ = some (.slice rta rtn rtc) := by subst hwa; go_simp
  have HKR : Hid (∀ W, Below wa.heap.size wa W → W.cell? ⟨w.heap.size, 0, none⟩ = some (.int .i64 rver) ∧ W.cell? ⟨w.heap.size, 1, none⟩ = some (.slice rta rtn rtc)) := fun W hb =>
    ⟨(hb.cell (p := ⟨w.heap.size, 0, none⟩) (show w.heap.size < _ by omega)).trans z0, (hb.cell (p := ⟨w.heap.size, 1, none⟩) (show w.heap.size < _ by omega)).trans z1⟩
  have HN := Lib.hid (cNew_90 cv cn wa (hcv.below HWA.out))
  obtain ⟨sa, sc, rfl, _⟩ := hcv
  have HRV := Lib.hid hrv
  have HBG : Hid (∀ W, Calls Try.prog 20 #[] W fun e w' => e = .returned (.bool true) ∧ Below W.heap.size W w') := begun7_any
  have HWN := Lib.hid hwa
  clear hrv hrsl hrtn hrver z0 z1 hwa
  go_enter Try.func7, Try.ntmps7
  go_wp2_with fail
  rw [HWN.out]
  clear HWN
  refine HN.out.mono ?_
  rintro e w1 ⟨bc, rfl, hb1, hbc, hok⟩
  have hlt : bc < w1.heap.size := hok.lt.1
  have B1 : Hid (Below wa.heap.size wa w1) := hb1
  have hs1 := hb1.size
  have HS := Lib.hid (cSchema_any bc w1.heap.size w1 hok)
  clear hb1 hok HN
  go_wp2_with fail
  refine HS.out.mono ?_
  rintro e w2 ⟨lo, sb, tb, n, id, ver, rs1, rs2, rs3, ck, rfl, hsok, hsi⟩
  have HSO := Lib.hid hsok
  have HSI := Lib.hid hsi
  have hn2 : 2 ≤ n := hsok.n2
  have hn4 : n ≤ 4 := hsok.n4
  have hbcl := hsi.bclt
  have hlo1 : w1.heap.size ≤ lo := hsi.hlo.1
  obtain ⟨t1, t2, -, -, -⟩ := hsi.htb
  have hm2 := hsi.mv
  have hs2 := hm2.size
  clear hsok HS
  -- the box of the schema
  obtain ⟨wb, hwb⟩ : ∃ wb, w2.alloc (.cells #[.int .i64 ver, .slice (some ⟨tb, 0, none⟩) n 4] 45) = wb := ⟨_, rfl⟩
  obtain ⟨bx, hbx⟩ : ∃ bx, w2.heap.size = bx := ⟨_, rfl⟩
  have hbx1 : w1.heap.size ≤ bx := by omega
  have hsb : wb.heap.size = bx + 1 := by rw [← hwb, ← hbx]; simp
  have HSB : Hid (SInv bc w1.heap.size lo w1 sb tb n ver [tP, tT id rs1 ck, tM rs2, tA id rs3] wb) := by rw [← hwb]; exact hsi.alloc _
  have MB : Hid (Mv bc w1 wb) := by rw [← hwb]; exact hm2.alloc _
  have q0 : wb.cell? ⟨bx, 0, none⟩ = some (.int .i64 ver) := by rw [← hbx]; subst hwb; go_simp
  have q1 : wb.cell? ⟨bx, 1, none⟩ = some (.slice (some ⟨tb, 0, none⟩) n 4) := by rw [← hbx]; subst hwb; go_simp
  have hbxb : bx ≠ bc := by omega
  have HQ : Hid (∀ W, Mv bc wb W → W.cell? ⟨bx, 0, none⟩ = some (.int .i64 ver) ∧ W.cell? ⟨bx, 1, none⟩ = some (.slice (some ⟨tb, 0, none⟩) n 4)) := fun W hm =>
    ⟨(hm.cell (p := ⟨bx, 0, none⟩) (show bx < _ by omega) hbxb).trans q0, (hm.cell (p := ⟨bx, 1, none⟩) (show bx < _ by omega) hbxb).trans q1⟩
  have HI := Lib.hid (cInt_any bc w1.heap.size (n : Int) wb (by omega) (by omega) HSB.out.ok)
  have HWB := Lib.hid hwb
  have HBX := Lib.hid hbx
  clear hsi HSI hm2 hwb hbx t1 t2 q0 q1
  go_wp2_with fail
  rw [HWB.out, HBX.out]
  clear HWB HBX
  refine HI.out.mono ?_
  rintro e w3 ⟨r, rfl, hr0, hr1, hm3, ho3⟩
  obtain ⟨t, rfl⟩ : ∃ q : Nat, r = q := ⟨r.toNat, by omega⟩
  have htn : t < n := by omega
  have HS3 := Lib.hid (HSB.out.step hm3 ho3)
  have M3 : Hid (Mv bc wb w3) := hm3
  have hs3 := hm3.size
  clear hr0 hr1 hm3 ho3 HI HSB
  have HCL : Hid ((cSC n id ver rs1 rs2 rs3 ck).ts.length = n) := cSC_len hn4 id ver rs1 rs2 rs3 ck
  have htl : t < (cSC n id ver rs1 rs2 rs3 ck).ts.length := by rw [HCL.out]; exact htn
  obtain ⟨TT, hTT⟩ : ∃ TT, (cSC n id ver rs1 rs2 rs3 ck).ts[t] = TT := ⟨_, rfl⟩
  have HKT : Hid (okKs (kndT TT) = true ∧ (kndT TT).length ≤ 4) := by rw [← hTT]; have h := case_kinds HSO.out _ (List.getElem_mem htl); exact ⟨h.1, h.2.1⟩
  have HTA : Hid (tbAt (cSC n id ver rs1 rs2 rs3 ck) t = TT) := by rw [← hTT]; exact tbAt_in htl
  have hkey : w3.cell? ⟨tb, t * 5 + 2, none⟩ = some (.int .i64 TT.key) := by
    have h := HS3.out.tabAtF (j := t) (by rw [HS3.out.len]; omega)
    rw [← hTT]
    have e : (cSC n id ver rs1 rs2 rs3 ck).ts[t] = [tP, tT id rs1 ck, tM rs2, tA id rs3][t]'(by simp; omega) := by show (List.take n _)[t]'_ = _; exact List.getElem_take ..
    rw [e]; exact h
  have HKC : Hid (∀ W, Mv bc w3 W → W.cell? ⟨tb, t * 5 + 2, none⟩ = some (.int .i64 TT.key)) := fun W hm => (hm.cell (p := ⟨tb, t * 5 + 2, none⟩) HS3.out.htb.2.1 (show tb ≠ bc by have := HS3.out.htb.1; omega)).trans hkey
  have HSC : Hid (∀ W, Mv bc w3 W → Sc (fun b => lo ≤ b) W (.agg #[.int .i64 ver, .slice (some ⟨tb, 0, none⟩) n 4]) (cSC n id ver rs1 rs2 rs3 ck)) := fun W hm => (HS3.out.sc hn4).mv hm (by omega)
  have HKK : Hid (∀ W, Mv bc w3 W → Calls Try.prog 29 #[.agg #[.int .i64 ver, .slice (some ⟨tb, 0, none⟩) n 4], .int .i64 t] W (KndOwn (kndT TT) W)) := fun W hm => by
    have h := rKinds_any _ _ t W (HSC.out W hm)
    rw [HTA.out] at h; exact h
  have HK5 : Hid (∀ W, Mv bc w3 W → W.cell? ⟨bx, 0, none⟩ = some (.int .i64 ver) ∧ W.cell? ⟨bx, 1, none⟩ = some (.slice (some ⟨tb, 0, none⟩) n 4) ∧ W.cell? ⟨tb, t * 5 + 2, none⟩ = some (.int .i64 TT.key)) := fun W hm =>
    ⟨(HQ.out W (M3.out.trans hm)).1, (HQ.out W (M3.out.trans hm)).2, HKC.out W hm⟩
  have htl4 : (t : Int) < n := by omega
  have HIN : Hid (inT (cSC n id ver rs1 rs2 rs3 ck) t = true) := by show _ = _; unfold inT; rw [HCL.out]; simpa using htn
  have HKE : Hid (1 ≤ (kndT TT).length) := by rw [← hTT]; have h := case_kinds HSO.out _ (List.getElem_mem htl); have := h.2.2; show _ ≤ _; omega
  have HI3 := Lib.hid (cInt_any bc w1.heap.size 3 w3 (by omega) (by omega) HS3.out.ok)
  clear hTT hkey
  go_wp2_with fail
  refine HI3.out.mono ?_
  rintro e w4 ⟨x3, rfl, h30, h31, hm4, ho4⟩
  have M4 : Hid (Mv bc w3 w4) := hm4
  have O4 : Hid (CaseOk bc w1.heap.size w4) := ho4
  have hs4 := hm4.size
  obtain ⟨xm, hxm⟩ : ∃ xm : Int, 1 + x3 = xm := ⟨_, rfl⟩
  have HXM : Hid (xm = 1 ∨ xm = 2 ∨ xm = 3) := by show _ ∨ _; omega
  have hb3 : x3 ≤ 2 := by omega
  clear hm4 ho4 HI3 h31
  go_upto_region 5 with fail
  clear hxm h30 hb3
  refine wp_region_held_drew (S := fun W => W.cell? ⟨bx, 0, none⟩ = some (.int .i64 ver) ∧ W.cell? ⟨bx, 1, none⟩ = some (.slice (some ⟨tb, 0, none⟩) n 4) ∧ W.cell? ⟨tb, t * 5 + 2, none⟩ = some (.int .i64 TT.key)) (by kernel_rfl) (HK5.out _ (M4.out.drewN 1)) (fun hHeld => ?_)
  obtain ⟨wd, hwd⟩ : ∃ wd, w4.drew = wd := ⟨_, rfl⟩
  have hbd : Below w4.heap.size w4 wd := by rw [← hwd]; exact (Below.refl _ _).drew
  have HBD : Hid (Mv bc w3 wd) := M4.out.trans (Mv.of_below hbd)
  have OD : Hid (CaseOk bc w1.heap.size wd) := O4.out.below hbd O4.out.lt.2
  have hdz := hbd.size
  rw [hwd] at hHeld ⊢
  clear hwd hbd
  refine wpAnyH_takeD (i := 0) (d := 31) (v := ?_) rfl rfl (by kernel_rfl) (by kernel_rfl) (by kernel_rfl) (fun _ _ _ h => h) (Or.inl ⟨by rfl, ?_⟩) (by assumption) ?_; rotate_left
  · intro W hSw; (try dsimp only at hSw); go_simp; (try with_reducible rfl)
  (try simp only [List.set_cons_zero, List.set_cons_succ])
  refine wpAnyH_takeD (i := 1) (d := 32) (v := ?_) rfl rfl (by kernel_rfl) (by kernel_rfl) (by kernel_rfl) (fun _ _ _ h => h) (Or.inl ⟨by rfl, ?_⟩) (by assumption) ?_; rotate_left
  · intro W hSw; (try dsimp only at hSw); go_simp; (try with_reducible rfl)
  (try simp only [List.set_cons_zero, List.set_cons_succ])
  refine wpAnyH_takeD (i := 2) (d := 33) (v := ?_) rfl rfl (by kernel_rfl) (by kernel_rfl) (by kernel_rfl) (fun _ _ _ h => h) (Or.inl ⟨by rfl, ?_⟩) (by assumption) ?_; rotate_left
  · intro W hSw; (try dsimp only at hSw); go_simp; (try with_reducible rfl)
  (try simp only [List.set_cons_zero, List.set_cons_succ])
  refine wpAnyH_takeD (i := 4) (d := 35) (v := ?_) rfl rfl (by kernel_rfl) (by kernel_rfl) (by kernel_rfl) (fun _ _ _ h => h) (Or.inl ⟨by rfl, ?_⟩) (by assumption) ?_; rotate_left
  · intro W hSw; (try dsimp only at hSw); go_simp; (try with_reducible rfl)
  (try simp only [List.set_cons_zero, List.set_cons_succ])
  refine wpAnyH_takeD (i := 5) (d := 36) (v := ?_) rfl rfl (by kernel_rfl) (by kernel_rfl) (by kernel_rfl) (fun _ _ _ h => h) (Or.inl ⟨by rfl, ?_⟩) (by assumption) ?_; rotate_left
  · intro W hSw; (try dsimp only at hSw); go_simp; (try with_reducible rfl)
  (try simp only [List.set_cons_zero, List.set_cons_succ])
  refine wpAnyH_takeD (i := 6) (d := 37) (v := ?_) rfl rfl (by kernel_rfl) (by kernel_rfl) (by kernel_rfl) (fun _ _ _ h => h) (Or.inl ⟨by rfl, ?_⟩) (by assumption) ?_; rotate_left
  · intro W hSw; (try dsimp only at hSw); go_simp; (try with_reducible rfl)
  (try simp only [List.set_cons_zero, List.set_cons_succ])
  refine wpAnyH_takeD (i := 7) (d := 38) (v := ?_) rfl rfl (by kernel_rfl) (by kernel_rfl) (by kernel_rfl) (fun _ _ _ h => h) (Or.inl ⟨by rfl, ?_⟩) (by assumption) ?_; rotate_left
  · intro W hSw; (try dsimp only at hSw); go_simp; (try with_reducible rfl)
  (try simp only [List.set_cons_zero, List.set_cons_succ])
  refine wpAnyH_takeD (i := 8) (d := 39) (v := ?_) rfl rfl (by kernel_rfl) (by kernel_rfl) (by kernel_rfl) (fun _ _ _ h => h) (Or.inl ⟨by rfl, ?_⟩) (by assumption) ?_; rotate_left
  · intro W hSw; (try dsimp only at hSw); go_simp; (try with_reducible rfl)
  (try simp only [List.set_cons_zero, List.set_cons_succ])
  refine wpAnyH_takeD (i := 9) (d := 40) (v := ?_) rfl rfl (by kernel_rfl) (by kernel_rfl) (by kernel_rfl) (fun _ _ _ h => h) (Or.inl ⟨by rfl, ?_⟩) (by assumption) ?_; rotate_left
  · intro W hSw; (try dsimp only at hSw); go_simp; (try with_reducible rfl)
  (try simp only [List.set_cons_zero, List.set_cons_succ])
  refine wpAnyH_takeD (i := 10) (d := 41) (v := ?_) rfl rfl (by kernel_rfl) (by kernel_rfl) (by kernel_rfl) (fun _ _ _ h => h) (Or.inl ⟨by rfl, ?_⟩) (by assumption) ?_; rotate_left
  · intro W hSw; (try dsimp only at hSw); go_simp; (try with_reducible rfl)
  (try simp only [List.set_cons_zero, List.set_cons_succ])
  refine wpAnyH_ready (rs := [3]) (by kernel_rfl) (by simp) ?_
  refine AllReadyH.cons rfl (fun K hK => ?_) AllReadyH.nil
  go_simp
  go_at_call 29
  refine (HKK.out _ HBD.out).mono ?_
  rintro e wk ⟨kv, rfl, hko, hkb, -, -⟩
  have HKO : Hid (IntsG w1.heap.size wk kv (kndT TT)) := (intsG_own hko (by have := HKT.out.2; omega)).weak (by omega)
  have MK : Hid (Mv bc w3 wk) := HBD.out.trans (Mv.of_below hkb)
  have OK_ : Hid (CaseOk bc w1.heap.size wk) := OD.out.below hkb OD.out.lt.2
  have hkz := hkb.size
  obtain ⟨ka, kc, rfl⟩ := HKO.out.shape
  have HRO := Lib.hid (cRowG_any bc w1.heap.size w1.heap.size (kndT TT) (.slice ka (kndT TT).length kc) TT.key xm wk OK_.out HKT.out.1 (by have := HKT.out.2; omega) HKO.out hlt HXM.out)
  clear hHeld hko hkb
  refine hK.out _ _ (HK5.out _ MK.out) (fun hHeld => ?_)
  clear hK K
  (try simp only [List.set_cons_zero, List.set_cons_succ])
  refine wpAnyH_ready (rs := [11]) (by kernel_rfl) (by simp) ?_
  refine AllReadyH.cons rfl (fun K hK => ?_) AllReadyH.nil
  go_simp
  refine HRO.out.mono ?_
  rintro e w5 ⟨rv2, RL2, rfl, hl2, hfp, hown2, hm, ho⟩
  have M5 : Hid (Mv bc w3 w5) := MK.out.trans hm
  have O5 : Hid (CaseOk bc w1.heap.size w5) := ho
  have HFP : Hid (fitsT (cSC n id ver rs1 rs2 rs3 ck) t RL2 xm = true) := fitsT_of HIN.out HTA.out HXM.out hl2 hfp
  have HL2 : Hid (RL2.length = (kndT TT).length) := hl2
  have HOW2 : Hid (w5.ownsRow wk.heap.size 24 3 rv2 RL2.length (cellsOf RL2)) := hown2
  obtain ⟨r2a, r2c, er2⟩ := own_slice hown2
  subst er2
  obtain ⟨r2n, hr2n⟩ : ∃ r2n, RL2.length = r2n := ⟨_, rfl⟩
  have HN2 := Lib.hid hr2n
  have hn2b : 1 ≤ r2n ∧ r2n ≤ 4 := by have h1 := HKT.out.2; have h2 := HKE.out; omega
  rw [hr2n] at HOW2 ⊢
  have hs5 := hm.size
  clear hm ho hown2 HRO hHeld hl2 hfp hr2n
  refine hK.out _ _ (HK5.out _ M5.out) (fun hHeld => ?_)
  clear hK K
  (try simp only [List.set_cons_zero, List.set_cons_succ])
  refine wpAnyH_takeD (i := 12) (d := 15) (v := ?_) rfl rfl (by kernel_rfl) (by kernel_rfl) (by kernel_rfl) (fun _ _ _ h => h) (Or.inl ⟨by rfl, ?_⟩) (by assumption) ?_; rotate_left
  · intro W hSw; (try dsimp only at hSw); go_simp; (try with_reducible rfl)
  (try simp only [List.set_cons_zero, List.set_cons_succ])
  clear hHeld
  refine wpAnyH_done (by kernel_rfl) ?_ _
  obtain ⟨g2, hg2b, hg2l, HKROW⟩ : ∃ g2, wk.heap.size ≤ g2 ∧ g2 < w5.heap.size ∧ Hid (∀ W, W.heap[g2]? = w5.heap[g2]? → RowAt W (.slice r2a r2n r2c) RL2) := by
    rcases HOW2.out.2 with ⟨_, h0⟩ | ⟨g2, cap, cur, h1, h2, h3, h4⟩
    · omega
    · refine ⟨g2, h2, (Array.getElem?_eq_some_iff.1 h3).1, fun W hW => ?_⟩
      have h : W.ownsRow wk.heap.size 24 3 (.slice r2a r2n r2c) r2n (cellsOf RL2) := ⟨HOW2.out.1, .inr ⟨g2, cap, cur, h1, h2, hW.trans h3, h4⟩⟩
      rw [← HN2.out] at h ⊢
      exact rowAt_ownF h (by rw [HN2.out]; omega)
  have HR5 : Hid (RowAt w5 (.slice r2a r2n r2c) RL2) := by have h := HOW2.out; rw [← HN2.out] at h ⊢; exact rowAt_ownF h (by rw [HN2.out]; omega)
  have HCO := Lib.hid (rCopyOwn_any (.slice r2a r2n r2c) RL2 w5 HR5.out)
  go_wp2_with fail
  refine HCO.out.mono ?_
  rintro e w6 ⟨xv, rfl, hxo, hxb⟩
  have M6 : Hid (Mv bc w3 w6) := M5.out.trans (Mv.of_below hxb)
  have O6 : Hid (CaseOk bc w1.heap.size w6) := O5.out.below hxb O5.out.lt.2
  have HOX : Hid (w6.ownsRow w5.heap.size 24 3 xv RL2.length (cellsOf RL2)) := hxo
  have K6 : Hid (Mv bc w5 w6) := Mv.of_below hxb
  have HO6 : Hid (w6.ownsRow wk.heap.size 24 3 (.slice r2a r2n r2c) r2n (cellsOf RL2)) := own_mv HOW2.out (Mv.of_below hxb) (show bc < wk.heap.size by omega)
  obtain ⟨xa, xc, exv⟩ := own_slice hxo
  subst exv
  rw [HN2.out] at HOX ⊢
  have hs6 := hxb.size
  have HI6 := Lib.hid (cInt_any bc w1.heap.size (r2n : Int) w6 (by omega) (by omega) O6.out)
  clear hxo hxb HCO O5 M5 HOW2 HR5
  go_wp2_with fail
  refine HI6.out.mono ?_
  rintro e w7 ⟨xi, rfl, hxi0, hxi1, hm, ho⟩
  obtain ⟨xj, rfl⟩ : ∃ q : Nat, xi = q := ⟨xi.toNat, by omega⟩
  have hxj : xj < r2n := by omega
  have hxj2 : (xj : Int) < r2n := by omega
  have M7 : Hid (Mv bc w3 w7) := M6.out.trans hm
  have HOX7 : Hid (w7.ownsRow w5.heap.size 24 3 (.slice xa r2n xc) r2n (cellsOf RL2)) := own_mv HOX.out hm (by omega)
  have K7 : Hid (Mv bc w5 w7) := K6.out.trans hm
  have HO7 : Hid (w7.ownsRow wk.heap.size 24 3 (.slice r2a r2n r2c) r2n (cellsOf RL2)) := own_mv HO6.out hm (by omega)
  have HA7 := Lib.hid (cAny_any bc w1.heap.size w7 ho)
  have hs7 := hm.size
  clear hm ho HI6 HOX HO6 M6 O6 hxi0 hxi1
  go_wp2_with fail
  refine HA7.out.mono ?_
  rintro e w8 ⟨ak, an, az, rfl, -, -, -, hm, ho⟩
  have M8 : Hid (Mv bc w3 w8) := M7.out.trans hm
  have O8 : Hid (CaseOk bc w1.heap.size w8) := ho
  have HOX8 : Hid (w8.ownsRow w5.heap.size 24 3 (.slice xa r2n xc) r2n (cellsOf RL2)) := own_mv HOX7.out hm (by omega)
  have K8 : Hid (Mv bc w5 w8) := K7.out.trans hm
  have HO8 : Hid (w8.ownsRow wk.heap.size 24 3 (.slice r2a r2n r2c) r2n (cellsOf RL2)) := own_mv HO7.out hm (by omega)
  have hs8 := hm.size
  obtain ⟨g, hxg, hg⟩ : ∃ g, xa = some ⟨g, 0, none⟩ ∧ w5.heap.size ≤ g := by
    rcases HOX8.out.2 with ⟨_, h0⟩ | ⟨g, cap, cur, h1, h2, _⟩
    · omega
    · simp only [Value.slice.injEq] at h1; exact ⟨g, h1.1, h2⟩
  subst hxg
  have hcc : ∀ j, j < 3 → ∃ v, w8.cell? ⟨g, xj * 3 + j, none⟩ = some v := fun j hj => by
    have h1 := HOX8.out.1
    have h2 := HOX8.out.cellAt (xj * 3 + j) (by omega)
    rw [List.getElem?_eq_getElem (by omega)] at h2
    exact ⟨_, h2⟩
  obtain ⟨e0, c0⟩ := hcc 0 (by omega)
  rw [Nat.add_zero] at c0
  obtain ⟨e1, c1⟩ := hcc 1 (by omega)
  obtain ⟨e2, c2⟩ := hcc 2 (by omega)
  have f0 := HOX8.out.frozenAt (xj * 3)
  have f1 := HOX8.out.frozenAt (xj * 3 + 1)
  have f2 := HOX8.out.frozenAt (xj * 3 + 2)
  obtain ⟨w9, hw9⟩ : ∃ w9, ((w8.setCell ⟨g, xj * 3, none⟩ (.int .i64 ak)).setCell ⟨g, xj * 3 + 1, none⟩ (.int .i64 an)).setCell ⟨g, xj * 3 + 2, none⟩ (.string az) = w9 := ⟨_, rfl⟩
  obtain ⟨XL, hXL⟩ : ∃ XL, RL2.set xj ⟨ak, an, az⟩ = XL := ⟨_, rfl⟩
  have hxll : XL.length = r2n := by rw [← hXL, List.length_set]; exact HN2.out
  have HX9 : Hid (w9.ownsRow w5.heap.size 24 3 (.slice (some ⟨g, 0, none⟩) r2n xc) r2n (cellsOf XL)) := by show World.ownsRow _ _ _ _ _ _ _; rw [← hXL, ← hw9]; exact own_set3 HOX8.out xj (by rw [HN2.out]; exact hxj) ⟨ak, an, az⟩
  have HM9 : Hid (Below w5.heap.size w8 w9) := by rw [← hw9]; exact (((Below.refl _ _).setCell hg _).setCell hg _).setCell hg _
  have M9 : Hid (Mv bc w3 w9) := by rw [← hw9]; exact ((M8.out.setNew (by omega) _ _).setNew (by omega) _ _).setNew (by omega) _ _
  have O9 : Hid (CaseOk bc w1.heap.size w9) := O8.out.below HM9.out (by omega)
  have hs9 : w9.heap.size = w8.heap.size := by rw [← hw9]; simp
  have HG9 : Hid (w9.heap[g2]? = w5.heap[g2]?) := (HM9.out.block g2 hg2l).trans (K8.out.block g2 hg2l (by omega))
  have HR9 : Hid (RowAt w9 (.slice r2a r2n r2c) RL2) := HKROW.out w9 HG9.out
  have HC9 := Lib.hid (rCopyOwn_any (.slice r2a r2n r2c) RL2 w9 HR9.out)
  have HW9 := Lib.hid hw9
  clear hcc hw9 hXL HOX8 HO8 HO7 HOX7 M8 O8 HA7 K8 K7 K6 HM9
  go_wp2_with fail
  rw [HW9.out]
  refine HC9.out.mono ?_
  rintro e w10 ⟨yv, rfl, hyo, hyb⟩
  have O10 : Hid (CaseOk bc w1.heap.size w10) := O9.out.below hyb O9.out.lt.2
  have K10 : Hid (Mv bc w9 w10) := Mv.of_below hyb
  obtain ⟨ya, yc, eyv⟩ := own_slice hyo
  subst eyv
  have HY10 : Hid (w10.ownsRow w9.heap.size 24 3 (.slice ya r2n yc) r2n (cellsOf RL2)) := by have h := hyo; rw [HN2.out] at h; exact h
  rw [HN2.out]
  have hs10 := hyb.size
  have HA10 := Lib.hid (cAny_any bc w1.heap.size w10 O10.out)
  clear hyo hyb HC9 O9 O10 HW9
  go_wp2_with fail
  refine HA10.out.mono ?_
  rintro e w11 ⟨bk, bn, bz, rfl, -, -, -, hm, ho⟩
  have K11 : Hid (Mv bc w9 w11) := K10.out.trans hm
  have HY11 : Hid (w11.ownsRow w9.heap.size 24 3 (.slice ya r2n yc) r2n (cellsOf RL2)) := own_mv HY10.out hm (by omega)
  have hs11 := hm.size
  clear hm ho HA10 HY10 K10
  have hinfo : (Try.prog.info? 24).map (fun i => (i.zero, i.size, i.bytes)) = some (some (.agg #[.int .i64 0, .int .i64 0, .string ⟨#[]⟩]), 3, 32) := by kernel_rfl
  obtain ⟨i0, hi, hz0, hz1, hz2⟩ := info_parts hinfo
  have HI0 := Lib.hid hi
  have HZ0 := Lib.hid hz0
  have HZ1 := Lib.hid hz1
  have HZ2 := Lib.hid hz2
  clear hi hz0 hz1 hz2 hinfo
  have A1 : Hid (r2n + 1 ≤ maxLen) := by show _ ≤ _; unfold maxLen; omega
  have A2 : Hid ((r2n + 1) * 32 ≤ 140737488355328) := by show _ ≤ _; omega
  have A3 : Hid (∀ O : Obj, w9.heap.size ≤ (w11.alloc O).heap.size) := fun O => by simp; omega
  have A4 : Hid (∀ t (j : Nat) (u : Value), ([.int .i64 bk, .int .i64 bn, .string bz] : List Value)[j]? = some u → (w11.alloc (.cells #[.int .i64 bk, .int .i64 bn, .string bz] t)).cell? ((⟨w11.heap.size, 0, none⟩ : Addr).add j) = some u) := fun t => cells3 w11 bk bn bz t
  have A5 : Hid (∀ u ∈ ([.int .i64 bk, .int .i64 bn, .string bz] : List Value), u.oneCell' = true) := one3 _ _ _
  have A6 : Hid (∀ (O : Obj) (v' : Value) (w2 : World), w2.ownsRow w9.heap.size 24 3 v' (r2n + 1) (cellsOf RL2 ++ [.int .i64 bk, .int .i64 bn, .string bz]) → (w11.alloc O).grownBy w2 (Value.slice ya r2n yc).ownBlock → (w2.ownsRow w9.heap.size 24 3 v' (r2n + 1) (cellsOf (RL2 ++ [⟨bk, bn, bz⟩])) ∧ Mv bc w9 w2)) := fun O v' w2 h1 h2 => by
    have hkr := HY11.out.lt
    exact ⟨by rw [cellsOf_snoc]; simpa using h1, (K11.out.alloc O).grown h2 (Nat.le_refl _) (fun kk e => (hkr kk e).1)⟩
  go_wp2_with (at_builtin; refine wpList_append_own _ rfl _ _ 38 rfl w9.heap.size 24 i0 (.agg #[.int .i64 0, .int .i64 0, .string ⟨#[]⟩]) 3 32 Try.underlying38 HI0.out HZ0.out HZ1.out HZ2.out rfl (by decide) _ _ _ rfl (HY11.out.alloc _) ⟨w11.heap.size, 0, none⟩ 1 1 [.int .i64 bk, .int .i64 bn, .string bz] rfl rfl (A4.out _) A5.out A1.out A2.out (A3.out _) ?_; intro v12 w12 hown2 hgr _; have HXX := Lib.hid (A6.out _ v12 w12 hown2 hgr); clear hown2 hgr)
  obtain ⟨ya2, yc2, eyv⟩ := own_slice HXX.out.1
  subst eyv
  have K12 : Hid (Mv bc w9 w12) := HXX.out.2
  have M12 : Hid (Mv bc w3 w12) := M9.out.trans K12.out
  have hs12 := K12.out.size
  have HRX : Hid (RowAt w12 (.slice (some ⟨g, 0, none⟩) r2n xc) XL) := by have h := own_mv HX9.out K12.out (show bc < w5.heap.size by omega); rw [← hxll] at h ⊢; exact rowAt_ownF h (by omega)
  have HRR : Hid (RowAt w12 (.slice r2a r2n r2c) RL2) := HKROW.out w12 ((K12.out.block g2 (by omega) (by omega)).trans HG9.out)
  have hyl : (RL2 ++ [⟨bk, bn, bz⟩] : List V).length = r2n + 1 := by simp [HN2.out]
  have HRY : Hid (RowAt w12 (.slice ya2 (r2n + 1) yc2) (RL2 ++ [⟨bk, bn, bz⟩])) := by have h := HXX.out.1; rw [← hyl] at h ⊢; exact rowAt_ownF h (by omega)
  have HBA : Hid (Below wa.heap.size wa w12) := B1.out.trans ((MB.out.trans (M3.out.trans M12.out)).below (B := wa.heap.size) (by omega) (by omega))
  have HBW : Hid (Below w.heap.size w w12) := HWA.out.trans (HBA.out.mono (by omega))
  have HQL : Hid (∀ W, Below w12.heap.size w12 W → W.cell? ⟨bx, 0, none⟩ = some (.int .i64 ver) ∧ W.cell? ⟨bx, 1, none⟩ = some (.slice (some ⟨tb, 0, none⟩) n 4) ∧ W.cell? ⟨w.heap.size, 0, none⟩ = some (.int .i64 rver) ∧ W.cell? ⟨w.heap.size, 1, none⟩ = some (.slice rta rtn rtc)) := fun W hb => by
    obtain ⟨a, b⟩ := HQ.out W (M3.out.trans (M12.out.trans (Mv.of_below hb)))
    obtain ⟨c, d⟩ := HKR.out W (below_go HBA.out hb)
    exact ⟨a, b, c, d⟩
  have HSL : Hid (∀ W, Below w12.heap.size w12 W → Sc (fun b => lo ≤ b) W (.agg #[.int .i64 ver, .slice (some ⟨tb, 0, none⟩) n 4]) (cSC n id ver rs1 rs2 rs3 ck)) := fun W hb => HSC.out W (M12.out.trans (Mv.of_below hb))
  have HSR : Hid (∀ W, Below w12.heap.size w12 W → Sc (fun _ => True) W (.agg #[.int .i64 rver, .slice rta rtn rtc]) RS) := fun W hb => HRS.out.below (below_go HBW.out hb)
  have HRL : Hid (RowAt w12 (.slice ra rn rc) RL) := HRV.out.blw HBW.out
  have HFY : Hid (∀ m, fitsT (cSC n id ver rs1 rs2 rs3 ck) t (RL2 ++ [⟨bk, bn, bz⟩]) m = false) := fun m => fitsT_len HTA.out (by rw [hyl]; have := HL2.out; have := HN2.out; omega)
  clear HK5 HKK HKC HSC HQ HKR HS3 M9 MK OK_ OD HBD HKO HRV HX9 HR9 HG9 HXX HY11 K11 K12 M12 A1 A2 A3 A4 A5 A6 HI0 HZ0 HZ1 HZ2 HKROW hxll HL2 HKE HKT hyl f0 f1 f2
  go_wp2_with fail
  go_loopw [18] (fun i wr => ∃ k : Nat, k ≤ 5 ∧ i = .int .i64 k ∧ Hid (Below w12.heap.size w12 wr)) (fun i _ => 5 - (intOf i).toNat)
  case atStart => exact ⟨0, by omega, rfl, Below.refl _ _⟩
  case round =>
    obtain ⟨k, hk, rfl, HX⟩ := hrel
    have hzz := HX.out.size
    by_cases hk5 : k < 5
    · have hk5' : (k : Int) < 5 := by omega
      obtain ⟨y1, hy1⟩ : ∃ y, fitsT (cSC n id ver rs1 rs2 rs3 ck) t XL k = y := ⟨_, rfl⟩
      obtain ⟨y2, hy2⟩ : ∃ y, fitsT (cSC n id ver rs1 rs2 rs3 ck) t RL2 k = y := ⟨_, rfl⟩
      have F1 : Hid (∀ W, Below wr.heap.size wr W → Calls Try.prog 38 #[.agg #[.int .i64 ver, .slice (some ⟨tb, 0, none⟩) n 4], .int .i64 t, .slice (some ⟨g, 0, none⟩) r2n xc, .int .i64 k] W fun e w' => e = .returned (.bool y1) ∧ Below W.heap.size W w') := fun W hb => by
        have h := sFits_any _ _ t _ XL k W (HSL.out W (below_go HX.out hb)) (HRX.out.blw (below_go HX.out hb))
        rw [hy1] at h; exact h
      have F2 : Hid (∀ W, Below wr.heap.size wr W → Calls Try.prog 39 #[.agg #[.int .i64 ver, .slice (some ⟨tb, 0, none⟩) n 4], .int .i64 t, .slice (some ⟨g, 0, none⟩) r2n xc, .int .i64 k] W fun e w' => e = .returned (.bool y1) ∧ Below W.heap.size W w') := fun W hb => by
        have h := rFits_any _ _ t _ XL k W (HSL.out W (below_go HX.out hb)) (HRX.out.blw (below_go HX.out hb))
        rw [hy1] at h; exact h
      have F3 : Hid (∀ W, Below wr.heap.size wr W → Calls Try.prog 38 #[.agg #[.int .i64 ver, .slice (some ⟨tb, 0, none⟩) n 4], .int .i64 t, .slice r2a r2n r2c, .int .i64 k] W fun e w' => e = .returned (.bool y2) ∧ Below W.heap.size W w') := fun W hb => by
        have h := sFits_any _ _ t _ RL2 k W (HSL.out W (below_go HX.out hb)) (HRR.out.blw (below_go HX.out hb))
        rw [hy2] at h; exact h
      have F4 : Hid (∀ W, Below wr.heap.size wr W → Calls Try.prog 39 #[.agg #[.int .i64 ver, .slice (some ⟨tb, 0, none⟩) n 4], .int .i64 t, .slice r2a r2n r2c, .int .i64 k] W fun e w' => e = .returned (.bool y2) ∧ Below W.heap.size W w') := fun W hb => by
        have h := rFits_any _ _ t _ RL2 k W (HSL.out W (below_go HX.out hb)) (HRR.out.blw (below_go HX.out hb))
        rw [hy2] at h; exact h
      have F5 : Hid (∀ W, Below wr.heap.size wr W → Calls Try.prog 38 #[.agg #[.int .i64 ver, .slice (some ⟨tb, 0, none⟩) n 4], .int .i64 t, .slice ya2 (r2n + 1) yc2, .int .i64 k] W fun e w' => e = .returned (.bool false) ∧ Below W.heap.size W w') := fun W hb => by
        have h := sFits_any _ _ t _ (RL2 ++ [⟨bk, bn, bz⟩]) k W (HSL.out W (below_go HX.out hb)) (HRY.out.blw (below_go HX.out hb))
        rw [HFY.out] at h; exact h
      have n1 : (y1 != y1) = false := by cases y1 <;> rfl
      have n2 : (y2 != y2) = false := by cases y2 <;> rfl
      clear hy1 hy2
      go_upto_region 12 with fail
      have HK7 : Hid (∀ W, Below wr.heap.size wr W → W.cell? ⟨bx, 0, none⟩ = some (.int .i64 ver) ∧ W.cell? ⟨bx, 1, none⟩ = some (.slice (some ⟨tb, 0, none⟩) n 4) ∧ W.cell? ⟨w.heap.size, 0, none⟩ = some (.int .i64 rver) ∧ W.cell? ⟨w.heap.size, 1, none⟩ = some (.slice rta rtn rtc)) := fun W hb => HQL.out W (below_go HX.out hb)
      refine wp_region_held_drew (S := fun W => W.cell? ⟨bx, 0, none⟩ = some (.int .i64 ver) ∧ W.cell? ⟨bx, 1, none⟩ = some (.slice (some ⟨tb, 0, none⟩) n 4) ∧ W.cell? ⟨w.heap.size, 0, none⟩ = some (.int .i64 rver) ∧ W.cell? ⟨w.heap.size, 1, none⟩ = some (.slice rta rtn rtc)) (by kernel_rfl) (HK7.out _ (Below.refl _ _).drew) (fun hHeld => ?_)
      obtain ⟨wd, hwd⟩ : ∃ wd, wr.drew = wd := ⟨_, rfl⟩
      have BW : Hid (Below wr.heap.size wr wd) := by rw [← hwd]; exact (Below.refl _ _).drew
      rw [hwd] at hHeld ⊢
      clear hwd
      refine wpAnyH_takeD (i := 0) (d := 63) (v := ?_) rfl rfl (by kernel_rfl) (by kernel_rfl) (by kernel_rfl) (fun _ _ _ h => h) (Or.inl ⟨by rfl, ?_⟩) (by assumption) ?_; rotate_left
      · intro W hSw; (try dsimp only at hSw); go_simp; (try with_reducible rfl)
      (try simp only [List.set_cons_zero, List.set_cons_succ])
      refine wpAnyH_takeD (i := 1) (d := 64) (v := ?_) rfl rfl (by kernel_rfl) (by kernel_rfl) (by kernel_rfl) (fun _ _ _ h => h) (Or.inl ⟨by rfl, ?_⟩) (by assumption) ?_; rotate_left
      · intro W hSw; (try dsimp only at hSw); go_simp; (try with_reducible rfl)
      (try simp only [List.set_cons_zero, List.set_cons_succ])
      refine wpAnyH_takeD (i := 2) (d := 65) (v := ?_) rfl rfl (by kernel_rfl) (by kernel_rfl) (by kernel_rfl) (fun _ _ _ h => h) (Or.inl ⟨by rfl, ?_⟩) (by assumption) ?_; rotate_left
      · intro W hSw; (try dsimp only at hSw); go_simp; (try with_reducible rfl)
      (try simp only [List.set_cons_zero, List.set_cons_succ])
      refine wpAnyH_takeD (i := 3) (d := 66) (v := ?_) rfl rfl (by kernel_rfl) (by kernel_rfl) (by kernel_rfl) (fun _ _ _ h => h) (Or.inl ⟨by rfl, ?_⟩) (by assumption) ?_; rotate_left
      · intro W hSw; (try dsimp only at hSw); go_simp; (try with_reducible rfl)
      (try simp only [List.set_cons_zero, List.set_cons_succ])
      refine wpAnyH_takeD (i := 5) (d := 68) (v := ?_) rfl rfl (by kernel_rfl) (by kernel_rfl) (by kernel_rfl) (fun _ _ _ h => h) (Or.inl ⟨by rfl, ?_⟩) (by assumption) ?_; rotate_left
      · intro W hSw; (try dsimp only at hSw); go_simp; (try with_reducible rfl)
      (try simp only [List.set_cons_zero, List.set_cons_succ])
      refine wpAnyH_takeD (i := 6) (d := 69) (v := ?_) rfl rfl (by kernel_rfl) (by kernel_rfl) (by kernel_rfl) (fun _ _ _ h => h) (Or.inl ⟨by rfl, ?_⟩) (by assumption) ?_; rotate_left
      · intro W hSw; (try dsimp only at hSw); go_simp; (try with_reducible rfl)
      (try simp only [List.set_cons_zero, List.set_cons_succ])
      refine wpAnyH_takeD (i := 7) (d := 70) (v := ?_) rfl rfl (by kernel_rfl) (by kernel_rfl) (by kernel_rfl) (fun _ _ _ h => h) (Or.inl ⟨by rfl, ?_⟩) (by assumption) ?_; rotate_left
      · intro W hSw; (try dsimp only at hSw); go_simp; (try with_reducible rfl)
      (try simp only [List.set_cons_zero, List.set_cons_succ])
      refine wpAnyH_takeD (i := 8) (d := 71) (v := ?_) rfl rfl (by kernel_rfl) (by kernel_rfl) (by kernel_rfl) (fun _ _ _ h => h) (Or.inl ⟨by rfl, ?_⟩) (by assumption) ?_; rotate_left
      · intro W hSw; (try dsimp only at hSw); go_simp; (try with_reducible rfl)
      (try simp only [List.set_cons_zero, List.set_cons_succ])
      refine wpAnyH_ready (rs := [4]) (by kernel_rfl) (by simp) ?_
      refine AllReadyH.cons rfl (fun K hK => ?_) AllReadyH.nil
      go_simp
      go_at_call 38
      refine (F1.out _ BW.out).mono ?_
      rintro e w_4 ⟨rfl, hg⟩
      clear hHeld
      replace BW := Lib.hid (below_go BW.out hg)
      clear hg
      refine hK.out _ _ (HK7.out _ BW.out) (fun hHeld => ?_)
      clear hK K
      (try simp only [List.set_cons_zero, List.set_cons_succ])
      refine wpAnyH_ready (rs := [9]) (by kernel_rfl) (by simp) ?_
      refine AllReadyH.cons rfl (fun K hK => ?_) AllReadyH.nil
      go_simp
      go_at_call 39
      refine (F2.out _ BW.out).mono ?_
      rintro e w_9 ⟨rfl, hg⟩
      clear hHeld
      replace BW := Lib.hid (below_go BW.out hg)
      clear hg
      refine hK.out _ _ (HK7.out _ BW.out) (fun hHeld => ?_)
      clear hK K
      (try simp only [List.set_cons_zero, List.set_cons_succ])
      refine wpAnyH_takeD (i := 10) (d := 73) (v := ?_) rfl rfl (by kernel_rfl) (by kernel_rfl) (by kernel_rfl) (fun _ _ _ h => h) (Or.inl ⟨by rfl, ?_⟩) (by assumption) ?_; rotate_left
      · intro W hSw; (try dsimp only at hSw); go_simp; (try with_reducible rfl)
      (try simp only [List.set_cons_zero, List.set_cons_succ])
      refine wpAnyH_takeD (i := 11) (d := 74) (v := ?_) rfl rfl (by kernel_rfl) (by kernel_rfl) (by kernel_rfl) (fun _ _ _ h => h) (Or.inl ⟨by rfl, ?_⟩) (by assumption) ?_; rotate_left
      · intro W hSw; (try dsimp only at hSw); go_simp; (try with_reducible rfl)
      (try simp only [List.set_cons_zero, List.set_cons_succ])
      refine wpAnyH_takeD (i := 12) (d := 75) (v := ?_) rfl rfl (by kernel_rfl) (by kernel_rfl) (by kernel_rfl) (fun _ _ _ h => h) (Or.inl ⟨by rfl, ?_⟩) (by assumption) ?_; rotate_left
      · intro W hSw; (try dsimp only at hSw); go_simp; (try with_reducible rfl)
      (try simp only [List.set_cons_zero, List.set_cons_succ])
      refine wpAnyH_takeD (i := 13) (d := 76) (v := ?_) rfl rfl (by kernel_rfl) (by kernel_rfl) (by kernel_rfl) (fun _ _ _ h => h) (Or.inl ⟨by rfl, ?_⟩) (by assumption) ?_; rotate_left
      · intro W hSw; (try dsimp only at hSw); go_simp; (try with_reducible rfl)
      (try simp only [List.set_cons_zero, List.set_cons_succ])
      refine wpAnyH_takeD (i := 14) (d := 77) (v := ?_) rfl rfl (by kernel_rfl) (by kernel_rfl) (by kernel_rfl) (fun _ _ _ h => h) (Or.inl ⟨by rfl, ?_⟩) (by assumption) ?_; rotate_left
      · intro W hSw; (try dsimp only at hSw); go_simp; (try with_reducible rfl)
      (try simp only [List.set_cons_zero, List.set_cons_succ])
      refine wpAnyH_takeD (i := 15) (d := 78) (v := ?_) rfl rfl (by kernel_rfl) (by kernel_rfl) (by kernel_rfl) (fun _ _ _ h => h) (Or.inl ⟨by rfl, ?_⟩) (by assumption) ?_; rotate_left
      · intro W hSw; (try dsimp only at hSw); go_simp; (try with_reducible rfl)
      (try simp only [List.set_cons_zero, List.set_cons_succ])
      refine wpAnyH_takeD (i := 17) (d := 80) (v := ?_) rfl rfl (by kernel_rfl) (by kernel_rfl) (by kernel_rfl) (fun _ _ _ h => h) (Or.inl ⟨by rfl, ?_⟩) (by assumption) ?_; rotate_left
      · intro W hSw; (try dsimp only at hSw); go_simp; (try with_reducible rfl)
      (try simp only [List.set_cons_zero, List.set_cons_succ])
      refine wpAnyH_takeD (i := 18) (d := 81) (v := ?_) rfl rfl (by kernel_rfl) (by kernel_rfl) (by kernel_rfl) (fun _ _ _ h => h) (Or.inl ⟨by rfl, ?_⟩) (by assumption) ?_; rotate_left
      · intro W hSw; (try dsimp only at hSw); go_simp; (try with_reducible rfl)
      (try simp only [List.set_cons_zero, List.set_cons_succ])
      refine wpAnyH_takeD (i := 19) (d := 82) (v := ?_) rfl rfl (by kernel_rfl) (by kernel_rfl) (by kernel_rfl) (fun _ _ _ h => h) (Or.inl ⟨by rfl, ?_⟩) (by assumption) ?_; rotate_left
      · intro W hSw; (try dsimp only at hSw); go_simp; (try with_reducible rfl)
      (try simp only [List.set_cons_zero, List.set_cons_succ])
      refine wpAnyH_takeD (i := 20) (d := 83) (v := ?_) rfl rfl (by kernel_rfl) (by kernel_rfl) (by kernel_rfl) (fun _ _ _ h => h) (Or.inl ⟨by rfl, ?_⟩) (by assumption) ?_; rotate_left
      · intro W hSw; (try dsimp only at hSw); go_simp; (try with_reducible rfl)
      (try simp only [List.set_cons_zero, List.set_cons_succ])
      refine wpAnyH_ready (rs := [16]) (by kernel_rfl) (by simp) ?_
      refine AllReadyH.cons rfl (fun K hK => ?_) AllReadyH.nil
      go_simp
      go_at_call 38
      refine (F3.out _ BW.out).mono ?_
      rintro e w_16 ⟨rfl, hg⟩
      clear hHeld
      replace BW := Lib.hid (below_go BW.out hg)
      clear hg
      refine hK.out _ _ (HK7.out _ BW.out) (fun hHeld => ?_)
      clear hK K
      (try simp only [List.set_cons_zero, List.set_cons_succ])
      refine wpAnyH_ready (rs := [21]) (by kernel_rfl) (by simp) ?_
      refine AllReadyH.cons rfl (fun K hK => ?_) AllReadyH.nil
      go_simp
      go_at_call 39
      refine (F4.out _ BW.out).mono ?_
      rintro e w_21 ⟨rfl, hg⟩
      clear hHeld
      replace BW := Lib.hid (below_go BW.out hg)
      clear hg
      refine hK.out _ _ (HK7.out _ BW.out) (fun hHeld => ?_)
      clear hK K
      (try simp only [List.set_cons_zero, List.set_cons_succ])
      refine wpAnyH_takeD (i := 22) (d := 85) (v := ?_) rfl rfl (by kernel_rfl) (by kernel_rfl) (by kernel_rfl) (fun _ _ _ h => h) (Or.inl ⟨by rfl, ?_⟩) (by assumption) ?_; rotate_left
      · intro W hSw; (try dsimp only at hSw); go_simp; (try with_reducible rfl)
      (try simp only [List.set_cons_zero, List.set_cons_succ])
      refine wpAnyH_takeD (i := 23) (d := 86) (v := ?_) rfl rfl (by kernel_rfl) (by kernel_rfl) (by kernel_rfl) (fun _ _ _ h => h) (Or.inl ⟨by rfl, ?_⟩) (by assumption) ?_; rotate_left
      · intro W hSw; (try dsimp only at hSw); go_simp; (try with_reducible rfl)
      (try simp only [List.set_cons_zero, List.set_cons_succ])
      refine wpAnyH_takeD (i := 24) (d := 87) (v := ?_) rfl rfl (by kernel_rfl) (by kernel_rfl) (by kernel_rfl) (fun _ _ _ h => h) (Or.inl ⟨by rfl, ?_⟩) (by assumption) ?_; rotate_left
      · intro W hSw; (try dsimp only at hSw); go_simp; (try with_reducible rfl)
      (try simp only [List.set_cons_zero, List.set_cons_succ])
      refine wpAnyH_takeD (i := 25) (d := 88) (v := ?_) rfl rfl (by kernel_rfl) (by kernel_rfl) (by kernel_rfl) (fun _ _ _ h => h) (Or.inl ⟨by rfl, ?_⟩) (by assumption) ?_; rotate_left
      · intro W hSw; (try dsimp only at hSw); go_simp; (try with_reducible rfl)
      (try simp only [List.set_cons_zero, List.set_cons_succ])
      refine wpAnyH_takeD (i := 26) (d := 89) (v := ?_) rfl rfl (by kernel_rfl) (by kernel_rfl) (by kernel_rfl) (fun _ _ _ h => h) (Or.inl ⟨by rfl, ?_⟩) (by assumption) ?_; rotate_left
      · intro W hSw; (try dsimp only at hSw); go_simp; (try with_reducible rfl)
      (try simp only [List.set_cons_zero, List.set_cons_succ])
      refine wpAnyH_takeD (i := 27) (d := 90) (v := ?_) rfl rfl (by kernel_rfl) (by kernel_rfl) (by kernel_rfl) (fun _ _ _ h => h) (Or.inl ⟨by rfl, ?_⟩) (by assumption) ?_; rotate_left
      · intro W hSw; (try dsimp only at hSw); go_simp; (try with_reducible rfl)
      (try simp only [List.set_cons_zero, List.set_cons_succ])
      refine wpAnyH_takeD (i := 28) (d := 91) (v := ?_) rfl rfl (by kernel_rfl) (by kernel_rfl) (by kernel_rfl) (fun _ _ _ h => h) (Or.inl ⟨by rfl, ?_⟩) (by assumption) ?_; rotate_left
      · intro W hSw; (try dsimp only at hSw); go_simp; (try with_reducible rfl)
      (try simp only [List.set_cons_zero, List.set_cons_succ])
      refine wpAnyH_ready (rs := [29]) (by kernel_rfl) (by simp) ?_
      refine AllReadyH.cons rfl (fun K hK => ?_) AllReadyH.nil
      go_simp
      go_at_call 38
      refine (F5.out _ BW.out).mono ?_
      rintro e w_29 ⟨rfl, hg⟩
      clear hHeld
      replace BW := Lib.hid (below_go BW.out hg)
      clear hg
      refine hK.out _ _ (HK7.out _ BW.out) (fun hHeld => ?_)
      clear hK K
      (try simp only [List.set_cons_zero, List.set_cons_succ])
      refine wpAnyH_takeD (i := 30) (d := 93) (v := ?_) rfl rfl (by kernel_rfl) (by kernel_rfl) (by kernel_rfl) (fun _ _ _ h => h) (Or.inl ⟨by rfl, ?_⟩) (by assumption) ?_; rotate_left
      · intro W hSw; (try dsimp only at hSw); go_simp; (try with_reducible rfl)
      (try simp only [List.set_cons_zero, List.set_cons_succ])
      clear hHeld
      refine wpAnyH_done (by kernel_rfl) ?_ _
      have HX2 : Hid (Below w12.heap.size w12 w_29) := below_go HX.out BW.out
      clear BW F1 F2 F3 F4 F5 HK7 HX
      go_wp2_with fail
      go_roundw
      case rel => exact ⟨k + 1, by omega, by go_num, HX2⟩
      case measure => simp [intOf]; omega
    · have hke : k = 5 := by omega
      subst hke
      obtain ⟨yA, hyA⟩ : ∃ y, fitsT (cSC n id ver rs1 rs2 rs3 ck) ti RL2 mi = y := ⟨_, rfl⟩
      obtain ⟨yB, hyB⟩ : ∃ y, fitsT RS ti RL mi = y := ⟨_, rfl⟩
      obtain ⟨yC, hyC⟩ : ∃ y, fitsT (cSC n id ver rs1 rs2 rs3 ck) t RL mi = y := ⟨_, rfl⟩
      have F0 : Hid (∀ W, Below wr.heap.size wr W → Calls Try.prog 38 #[.agg #[.int .i64 ver, .slice (some ⟨tb, 0, none⟩) n 4], .int .i64 t, .slice r2a r2n r2c, .int .i64 xm] W fun e w' => e = .returned (.bool true) ∧ Below W.heap.size W w') := fun W hb => by
        have h := sFits_any _ _ t _ RL2 xm W (HSL.out W (below_go HX.out hb)) (HRR.out.blw (below_go HX.out hb))
        rw [HFP.out] at h; exact h
      have F1 : Hid (∀ W, Below wr.heap.size wr W → Calls Try.prog 38 #[.agg #[.int .i64 ver, .slice (some ⟨tb, 0, none⟩) n 4], .int .i64 ti, .slice r2a r2n r2c, .int .i64 mi] W fun e w' => e = .returned (.bool yA) ∧ Below W.heap.size W w') := fun W hb => by
        have h := sFits_any _ _ ti _ RL2 mi W (HSL.out W (below_go HX.out hb)) (HRR.out.blw (below_go HX.out hb))
        rw [hyA] at h; exact h
      have F2 : Hid (∀ W, Below wr.heap.size wr W → Calls Try.prog 39 #[.agg #[.int .i64 ver, .slice (some ⟨tb, 0, none⟩) n 4], .int .i64 ti, .slice r2a r2n r2c, .int .i64 mi] W fun e w' => e = .returned (.bool yA) ∧ Below W.heap.size W w') := fun W hb => by
        have h := rFits_any _ _ ti _ RL2 mi W (HSL.out W (below_go HX.out hb)) (HRR.out.blw (below_go HX.out hb))
        rw [hyA] at h; exact h
      have F3 : Hid (∀ W, Below wr.heap.size wr W → Calls Try.prog 38 #[.agg #[.int .i64 rver, .slice rta rtn rtc], .int .i64 ti, .slice ra rn rc, .int .i64 mi] W fun e w' => e = .returned (.bool yB) ∧ Below W.heap.size W w') := fun W hb => by
        have h := sFits_any _ _ ti _ RL mi W (HSR.out W (below_go HX.out hb)) (HRL.out.blw (below_go HX.out hb))
        rw [hyB] at h; exact h
      have F4 : Hid (∀ W, Below wr.heap.size wr W → Calls Try.prog 39 #[.agg #[.int .i64 rver, .slice rta rtn rtc], .int .i64 ti, .slice ra rn rc, .int .i64 mi] W fun e w' => e = .returned (.bool yB) ∧ Below W.heap.size W w') := fun W hb => by
        have h := rFits_any _ _ ti _ RL mi W (HSR.out W (below_go HX.out hb)) (HRL.out.blw (below_go HX.out hb))
        rw [hyB] at h; exact h
      have F5 : Hid (∀ W, Below wr.heap.size wr W → Calls Try.prog 38 #[.agg #[.int .i64 ver, .slice (some ⟨tb, 0, none⟩) n 4], .int .i64 t, .slice ra rn rc, .int .i64 mi] W fun e w' => e = .returned (.bool yC) ∧ Below W.heap.size W w') := fun W hb => by
        have h := sFits_any _ _ t _ RL mi W (HSL.out W (below_go HX.out hb)) (HRL.out.blw (below_go HX.out hb))
        rw [hyC] at h; exact h
      have F6 : Hid (∀ W, Below wr.heap.size wr W → Calls Try.prog 39 #[.agg #[.int .i64 ver, .slice (some ⟨tb, 0, none⟩) n 4], .int .i64 t, .slice ra rn rc, .int .i64 mi] W fun e w' => e = .returned (.bool yC) ∧ Below W.heap.size W w') := fun W hb => by
        have h := rFits_any _ _ t _ RL mi W (HSL.out W (below_go HX.out hb)) (HRL.out.blw (below_go HX.out hb))
        rw [hyC] at h; exact h
      have BZZ : Hid (Below w.heap.size w wr) := below_go HBW.out HX.out
      clear hyA hyB hyC
      go_upto_region 14 with fail
      have HK7 : Hid (∀ W, Below wr.heap.size wr W → W.cell? ⟨bx, 0, none⟩ = some (.int .i64 ver) ∧ W.cell? ⟨bx, 1, none⟩ = some (.slice (some ⟨tb, 0, none⟩) n 4) ∧ W.cell? ⟨w.heap.size, 0, none⟩ = some (.int .i64 rver) ∧ W.cell? ⟨w.heap.size, 1, none⟩ = some (.slice rta rtn rtc)) := fun W hb => HQL.out W (below_go HX.out hb)
      refine wp_region_held_drew (S := fun W => W.cell? ⟨bx, 0, none⟩ = some (.int .i64 ver) ∧ W.cell? ⟨bx, 1, none⟩ = some (.slice (some ⟨tb, 0, none⟩) n 4) ∧ W.cell? ⟨w.heap.size, 0, none⟩ = some (.int .i64 rver) ∧ W.cell? ⟨w.heap.size, 1, none⟩ = some (.slice rta rtn rtc)) (by kernel_rfl) (HK7.out _ (Below.refl _ _).drew) (fun hHeld => ?_)
      obtain ⟨wd, hwd⟩ : ∃ wd, wr.drew = wd := ⟨_, rfl⟩
      have BW : Hid (Below wr.heap.size wr wd) := by rw [← hwd]; exact (Below.refl _ _).drew
      rw [hwd] at hHeld ⊢
      clear hwd
      refine wpAnyH_ready (rs := [0]) (by kernel_rfl) (by simp) ?_
      refine AllReadyH.cons rfl (fun K hK => ?_) AllReadyH.nil
      go_simp
      go_at_call 20
      refine (HBG.out _).mono ?_
      rintro e w_0 ⟨rfl, hg⟩
      clear hHeld
      replace BW := Lib.hid (below_go BW.out hg)
      clear hg
      refine hK.out _ _ (HK7.out _ BW.out) (fun hHeld => ?_)
      clear hK K
      (try simp only [List.set_cons_zero, List.set_cons_succ])
      refine wpAnyH_takeD (i := 1) (d := 95) (v := ?_) rfl rfl (by kernel_rfl) (by kernel_rfl) (by kernel_rfl) (fun _ _ _ h => h) (Or.inl ⟨by rfl, ?_⟩) (by assumption) ?_; rotate_left
      · intro W hSw; (try dsimp only at hSw); go_simp; (try with_reducible rfl)
      (try simp only [List.set_cons_zero, List.set_cons_succ])
      refine wpAnyH_takeD (i := 2) (d := 96) (v := ?_) rfl rfl (by kernel_rfl) (by kernel_rfl) (by kernel_rfl) (fun _ _ _ h => h) (Or.inl ⟨by rfl, ?_⟩) (by assumption) ?_; rotate_left
      · intro W hSw; (try dsimp only at hSw); go_simp; (try with_reducible rfl)
      (try simp only [List.set_cons_zero, List.set_cons_succ])
      refine wpAnyH_takeD (i := 3) (d := 97) (v := ?_) rfl rfl (by kernel_rfl) (by kernel_rfl) (by kernel_rfl) (fun _ _ _ h => h) (Or.inl ⟨by rfl, ?_⟩) (by assumption) ?_; rotate_left
      · intro W hSw; (try dsimp only at hSw); go_simp; (try with_reducible rfl)
      (try simp only [List.set_cons_zero, List.set_cons_succ])
      refine wpAnyH_takeD (i := 4) (d := 98) (v := ?_) rfl rfl (by kernel_rfl) (by kernel_rfl) (by kernel_rfl) (fun _ _ _ h => h) (Or.inl ⟨by rfl, ?_⟩) (by assumption) ?_; rotate_left
      · intro W hSw; (try dsimp only at hSw); go_simp; (try with_reducible rfl)
      (try simp only [List.set_cons_zero, List.set_cons_succ])
      refine wpAnyH_takeD (i := 5) (d := 99) (v := ?_) rfl rfl (by kernel_rfl) (by kernel_rfl) (by kernel_rfl) (fun _ _ _ h => h) (Or.inl ⟨by rfl, ?_⟩) (by assumption) ?_; rotate_left
      · intro W hSw; (try dsimp only at hSw); go_simp; (try with_reducible rfl)
      (try simp only [List.set_cons_zero, List.set_cons_succ])
      refine wpAnyH_ready (rs := [6]) (by kernel_rfl) (by simp) ?_
      refine AllReadyH.cons rfl (fun K hK => ?_) AllReadyH.nil
      go_simp
      go_at_call 38
      refine (F0.out _ BW.out).mono ?_
      rintro e w_6 ⟨rfl, hg⟩
      clear hHeld
      replace BW := Lib.hid (below_go BW.out hg)
      clear hg
      refine hK.out _ _ (HK7.out _ BW.out) (fun hHeld => ?_)
      clear hK K
      (try simp only [List.set_cons_zero, List.set_cons_succ])
      refine wpAnyH_takeD (i := 7) (d := 101) (v := ?_) rfl rfl (by kernel_rfl) (by kernel_rfl) (by kernel_rfl) (fun _ _ _ h => h) (Or.inl ⟨by rfl, ?_⟩) (by assumption) ?_; rotate_left
      · intro W hSw; (try dsimp only at hSw); go_simp; (try with_reducible rfl)
      (try simp only [List.set_cons_zero, List.set_cons_succ])
      refine wpAnyH_takeD (i := 8) (d := 102) (v := ?_) rfl rfl (by kernel_rfl) (by kernel_rfl) (by kernel_rfl) (fun _ _ _ h => h) (Or.inl ⟨by rfl, ?_⟩) (by assumption) ?_; rotate_left
      · intro W hSw; (try dsimp only at hSw); go_simp; (try with_reducible rfl)
      (try simp only [List.set_cons_zero, List.set_cons_succ])
      refine wpAnyH_takeD (i := 9) (d := 103) (v := ?_) rfl rfl (by kernel_rfl) (by kernel_rfl) (by kernel_rfl) (fun _ _ _ h => h) (Or.inl ⟨by rfl, ?_⟩) (by assumption) ?_; rotate_left
      · intro W hSw; (try dsimp only at hSw); go_simp; (try with_reducible rfl)
      (try simp only [List.set_cons_zero, List.set_cons_succ])
      refine wpAnyH_takeD (i := 10) (d := 104) (v := ?_) rfl rfl (by kernel_rfl) (by kernel_rfl) (by kernel_rfl) (fun _ _ _ h => h) (Or.inl ⟨by rfl, ?_⟩) (by assumption) ?_; rotate_left
      · intro W hSw; (try dsimp only at hSw); go_simp; (try with_reducible rfl)
      (try simp only [List.set_cons_zero, List.set_cons_succ])
      refine wpAnyH_takeD (i := 11) (d := 105) (v := ?_) rfl rfl (by kernel_rfl) (by kernel_rfl) (by kernel_rfl) (fun _ _ _ h => h) (Or.inl ⟨by rfl, ?_⟩) (by assumption) ?_; rotate_left
      · intro W hSw; (try dsimp only at hSw); go_simp; (try with_reducible rfl)
      (try simp only [List.set_cons_zero, List.set_cons_succ])
      refine wpAnyH_takeD (i := 12) (d := 106) (v := ?_) rfl rfl (by kernel_rfl) (by kernel_rfl) (by kernel_rfl) (fun _ _ _ h => h) (Or.inl ⟨by rfl, ?_⟩) (by assumption) ?_; rotate_left
      · intro W hSw; (try dsimp only at hSw); go_simp; (try with_reducible rfl)
      (try simp only [List.set_cons_zero, List.set_cons_succ])
      refine wpAnyH_takeD (i := 14) (d := 108) (v := ?_) rfl rfl (by kernel_rfl) (by kernel_rfl) (by kernel_rfl) (fun _ _ _ h => h) (Or.inl ⟨by rfl, ?_⟩) (by assumption) ?_; rotate_left
      · intro W hSw; (try dsimp only at hSw); go_simp; (try with_reducible rfl)
      (try simp only [List.set_cons_zero, List.set_cons_succ])
      refine wpAnyH_takeD (i := 15) (d := 109) (v := ?_) rfl rfl (by kernel_rfl) (by kernel_rfl) (by kernel_rfl) (fun _ _ _ h => h) (Or.inl ⟨by rfl, ?_⟩) (by assumption) ?_; rotate_left
      · intro W hSw; (try dsimp only at hSw); go_simp; (try with_reducible rfl)
      (try simp only [List.set_cons_zero, List.set_cons_succ])
      refine wpAnyH_takeD (i := 16) (d := 110) (v := ?_) rfl rfl (by kernel_rfl) (by kernel_rfl) (by kernel_rfl) (fun _ _ _ h => h) (Or.inl ⟨by rfl, ?_⟩) (by assumption) ?_; rotate_left
      · intro W hSw; (try dsimp only at hSw); go_simp; (try with_reducible rfl)
      (try simp only [List.set_cons_zero, List.set_cons_succ])
      refine wpAnyH_takeD (i := 17) (d := 111) (v := ?_) rfl rfl (by kernel_rfl) (by kernel_rfl) (by kernel_rfl) (fun _ _ _ h => h) (Or.inl ⟨by rfl, ?_⟩) (by assumption) ?_; rotate_left
      · intro W hSw; (try dsimp only at hSw); go_simp; (try with_reducible rfl)
      (try simp only [List.set_cons_zero, List.set_cons_succ])
      refine wpAnyH_ready (rs := [13]) (by kernel_rfl) (by simp) ?_
      refine AllReadyH.cons rfl (fun K hK => ?_) AllReadyH.nil
      go_simp
      go_at_call 38
      refine (F1.out _ BW.out).mono ?_
      rintro e w_13 ⟨rfl, hg⟩
      clear hHeld
      replace BW := Lib.hid (below_go BW.out hg)
      clear hg
      refine hK.out _ _ (HK7.out _ BW.out) (fun hHeld => ?_)
      clear hK K
      (try simp only [List.set_cons_zero, List.set_cons_succ])
      refine wpAnyH_ready (rs := [18]) (by kernel_rfl) (by simp) ?_
      refine AllReadyH.cons rfl (fun K hK => ?_) AllReadyH.nil
      go_simp
      go_at_call 39
      refine (F2.out _ BW.out).mono ?_
      rintro e w_18 ⟨rfl, hg⟩
      clear hHeld
      replace BW := Lib.hid (below_go BW.out hg)
      clear hg
      refine hK.out _ _ (HK7.out _ BW.out) (fun hHeld => ?_)
      clear hK K
      (try simp only [List.set_cons_zero, List.set_cons_succ])
      refine wpAnyH_takeD (i := 19) (d := 113) (v := ?_) rfl rfl (by kernel_rfl) (by kernel_rfl) (by kernel_rfl) (fun _ _ _ h => h) (Or.inl ⟨by rfl, ?_⟩) (by assumption) ?_; rotate_left
      · intro W hSw; (try dsimp only at hSw); go_simp; (try with_reducible rfl)
      (try simp only [List.set_cons_zero, List.set_cons_succ])
      refine wpAnyH_takeD (i := 20) (d := 114) (v := ?_) rfl rfl (by kernel_rfl) (by kernel_rfl) (by kernel_rfl) (fun _ _ _ h => h) (Or.inl ⟨by rfl, ?_⟩) (by assumption) ?_; rotate_left
      · intro W hSw; (try dsimp only at hSw); go_simp; (try with_reducible rfl)
      (try simp only [List.set_cons_zero, List.set_cons_succ])
      refine wpAnyH_takeD (i := 21) (d := 115) (v := ?_) rfl rfl (by kernel_rfl) (by kernel_rfl) (by kernel_rfl) (fun _ _ _ h => h) (Or.inl ⟨by rfl, ?_⟩) (by assumption) ?_; rotate_left
      · intro W hSw; (try dsimp only at hSw); go_simp; (try with_reducible rfl)
      (try simp only [List.set_cons_zero, List.set_cons_succ])
      refine wpAnyH_takeD (i := 22) (d := 116) (v := ?_) rfl rfl (by kernel_rfl) (by kernel_rfl) (by kernel_rfl) (fun _ _ _ h => h) (Or.inl ⟨by rfl, ?_⟩) (by assumption) ?_; rotate_left
      · intro W hSw; (try dsimp only at hSw); go_simp; (try with_reducible rfl)
      (try simp only [List.set_cons_zero, List.set_cons_succ])
      refine wpAnyH_takeD (i := 23) (d := 117) (v := ?_) rfl rfl (by kernel_rfl) (by kernel_rfl) (by kernel_rfl) (fun _ _ _ h => h) (Or.inl ⟨by rfl, ?_⟩) (by assumption) ?_; rotate_left
      · intro W hSw; (try dsimp only at hSw); go_simp; (try with_reducible rfl)
      (try simp only [List.set_cons_zero, List.set_cons_succ])
      refine wpAnyH_takeD (i := 24) (d := 118) (v := ?_) rfl rfl (by kernel_rfl) (by kernel_rfl) (by kernel_rfl) (fun _ _ _ h => h) (Or.inl ⟨by rfl, ?_⟩) (by assumption) ?_; rotate_left
      · intro W hSw; (try dsimp only at hSw); go_simp; (try with_reducible rfl)
      (try simp only [List.set_cons_zero, List.set_cons_succ])
      refine wpAnyH_takeD (i := 25) (d := 119) (v := ?_) rfl rfl (by kernel_rfl) (by kernel_rfl) (by kernel_rfl) (fun _ _ _ h => h) (Or.inl ⟨by rfl, ?_⟩) (by assumption) ?_; rotate_left
      · intro W hSw; (try dsimp only at hSw); go_simp; (try with_reducible rfl)
      (try simp only [List.set_cons_zero, List.set_cons_succ])
      refine wpAnyH_takeD (i := 27) (d := 121) (v := ?_) rfl rfl (by kernel_rfl) (by kernel_rfl) (by kernel_rfl) (fun _ _ _ h => h) (Or.inl ⟨by rfl, ?_⟩) (by assumption) ?_; rotate_left
      · intro W hSw; (try dsimp only at hSw); go_simp; (try with_reducible rfl)
      (try simp only [List.set_cons_zero, List.set_cons_succ])
      refine wpAnyH_takeD (i := 28) (d := 122) (v := ?_) rfl rfl (by kernel_rfl) (by kernel_rfl) (by kernel_rfl) (fun _ _ _ h => h) (Or.inl ⟨by rfl, ?_⟩) (by assumption) ?_; rotate_left
      · intro W hSw; (try dsimp only at hSw); go_simp; (try with_reducible rfl)
      (try simp only [List.set_cons_zero, List.set_cons_succ])
      refine wpAnyH_takeD (i := 29) (d := 123) (v := ?_) rfl rfl (by kernel_rfl) (by kernel_rfl) (by kernel_rfl) (fun _ _ _ h => h) (Or.inl ⟨by rfl, ?_⟩) (by assumption) ?_; rotate_left
      · intro W hSw; (try dsimp only at hSw); go_simp; (try with_reducible rfl)
      (try simp only [List.set_cons_zero, List.set_cons_succ])
      refine wpAnyH_takeD (i := 30) (d := 124) (v := ?_) rfl rfl (by kernel_rfl) (by kernel_rfl) (by kernel_rfl) (fun _ _ _ h => h) (Or.inl ⟨by rfl, ?_⟩) (by assumption) ?_; rotate_left
      · intro W hSw; (try dsimp only at hSw); go_simp; (try with_reducible rfl)
      (try simp only [List.set_cons_zero, List.set_cons_succ])
      refine wpAnyH_ready (rs := [26]) (by kernel_rfl) (by simp) ?_
      refine AllReadyH.cons rfl (fun K hK => ?_) AllReadyH.nil
      go_simp
      go_at_call 38
      refine (F3.out _ BW.out).mono ?_
      rintro e w_26 ⟨rfl, hg⟩
      clear hHeld
      replace BW := Lib.hid (below_go BW.out hg)
      clear hg
      refine hK.out _ _ (HK7.out _ BW.out) (fun hHeld => ?_)
      clear hK K
      (try simp only [List.set_cons_zero, List.set_cons_succ])
      refine wpAnyH_ready (rs := [31]) (by kernel_rfl) (by simp) ?_
      refine AllReadyH.cons rfl (fun K hK => ?_) AllReadyH.nil
      go_simp
      go_at_call 39
      refine (F4.out _ BW.out).mono ?_
      rintro e w_31 ⟨rfl, hg⟩
      clear hHeld
      replace BW := Lib.hid (below_go BW.out hg)
      clear hg
      refine hK.out _ _ (HK7.out _ BW.out) (fun hHeld => ?_)
      clear hK K
      (try simp only [List.set_cons_zero, List.set_cons_succ])
      refine wpAnyH_takeD (i := 32) (d := 126) (v := ?_) rfl rfl (by kernel_rfl) (by kernel_rfl) (by kernel_rfl) (fun _ _ _ h => h) (Or.inl ⟨by rfl, ?_⟩) (by assumption) ?_; rotate_left
      · intro W hSw; (try dsimp only at hSw); go_simp; (try with_reducible rfl)
      (try simp only [List.set_cons_zero, List.set_cons_succ])
      refine wpAnyH_takeD (i := 33) (d := 127) (v := ?_) rfl rfl (by kernel_rfl) (by kernel_rfl) (by kernel_rfl) (fun _ _ _ h => h) (Or.inl ⟨by rfl, ?_⟩) (by assumption) ?_; rotate_left
      · intro W hSw; (try dsimp only at hSw); go_simp; (try with_reducible rfl)
      (try simp only [List.set_cons_zero, List.set_cons_succ])
      refine wpAnyH_takeD (i := 34) (d := 128) (v := ?_) rfl rfl (by kernel_rfl) (by kernel_rfl) (by kernel_rfl) (fun _ _ _ h => h) (Or.inl ⟨by rfl, ?_⟩) (by assumption) ?_; rotate_left
      · intro W hSw; (try dsimp only at hSw); go_simp; (try with_reducible rfl)
      (try simp only [List.set_cons_zero, List.set_cons_succ])
      refine wpAnyH_takeD (i := 35) (d := 129) (v := ?_) rfl rfl (by kernel_rfl) (by kernel_rfl) (by kernel_rfl) (fun _ _ _ h => h) (Or.inl ⟨by rfl, ?_⟩) (by assumption) ?_; rotate_left
      · intro W hSw; (try dsimp only at hSw); go_simp; (try with_reducible rfl)
      (try simp only [List.set_cons_zero, List.set_cons_succ])
      refine wpAnyH_takeD (i := 36) (d := 130) (v := ?_) rfl rfl (by kernel_rfl) (by kernel_rfl) (by kernel_rfl) (fun _ _ _ h => h) (Or.inl ⟨by rfl, ?_⟩) (by assumption) ?_; rotate_left
      · intro W hSw; (try dsimp only at hSw); go_simp; (try with_reducible rfl)
      (try simp only [List.set_cons_zero, List.set_cons_succ])
      refine wpAnyH_takeD (i := 37) (d := 131) (v := ?_) rfl rfl (by kernel_rfl) (by kernel_rfl) (by kernel_rfl) (fun _ _ _ h => h) (Or.inl ⟨by rfl, ?_⟩) (by assumption) ?_; rotate_left
      · intro W hSw; (try dsimp only at hSw); go_simp; (try with_reducible rfl)
      (try simp only [List.set_cons_zero, List.set_cons_succ])
      refine wpAnyH_takeD (i := 38) (d := 132) (v := ?_) rfl rfl (by kernel_rfl) (by kernel_rfl) (by kernel_rfl) (fun _ _ _ h => h) (Or.inl ⟨by rfl, ?_⟩) (by assumption) ?_; rotate_left
      · intro W hSw; (try dsimp only at hSw); go_simp; (try with_reducible rfl)
      (try simp only [List.set_cons_zero, List.set_cons_succ])
      refine wpAnyH_takeD (i := 40) (d := 134) (v := ?_) rfl rfl (by kernel_rfl) (by kernel_rfl) (by kernel_rfl) (fun _ _ _ h => h) (Or.inl ⟨by rfl, ?_⟩) (by assumption) ?_; rotate_left
      · intro W hSw; (try dsimp only at hSw); go_simp; (try with_reducible rfl)
      (try simp only [List.set_cons_zero, List.set_cons_succ])
      refine wpAnyH_takeD (i := 41) (d := 135) (v := ?_) rfl rfl (by kernel_rfl) (by kernel_rfl) (by kernel_rfl) (fun _ _ _ h => h) (Or.inl ⟨by rfl, ?_⟩) (by assumption) ?_; rotate_left
      · intro W hSw; (try dsimp only at hSw); go_simp; (try with_reducible rfl)
      (try simp only [List.set_cons_zero, List.set_cons_succ])
      refine wpAnyH_takeD (i := 42) (d := 136) (v := ?_) rfl rfl (by kernel_rfl) (by kernel_rfl) (by kernel_rfl) (fun _ _ _ h => h) (Or.inl ⟨by rfl, ?_⟩) (by assumption) ?_; rotate_left
      · intro W hSw; (try dsimp only at hSw); go_simp; (try with_reducible rfl)
      (try simp only [List.set_cons_zero, List.set_cons_succ])
      refine wpAnyH_takeD (i := 43) (d := 137) (v := ?_) rfl rfl (by kernel_rfl) (by kernel_rfl) (by kernel_rfl) (fun _ _ _ h => h) (Or.inl ⟨by rfl, ?_⟩) (by assumption) ?_; rotate_left
      · intro W hSw; (try dsimp only at hSw); go_simp; (try with_reducible rfl)
      (try simp only [List.set_cons_zero, List.set_cons_succ])
      refine wpAnyH_ready (rs := [39]) (by kernel_rfl) (by simp) ?_
      refine AllReadyH.cons rfl (fun K hK => ?_) AllReadyH.nil
      go_simp
      go_at_call 38
      refine (F5.out _ BW.out).mono ?_
      rintro e w_39 ⟨rfl, hg⟩
      clear hHeld
      replace BW := Lib.hid (below_go BW.out hg)
      clear hg
      refine hK.out _ _ (HK7.out _ BW.out) (fun hHeld => ?_)
      clear hK K
      (try simp only [List.set_cons_zero, List.set_cons_succ])
      refine wpAnyH_ready (rs := [44]) (by kernel_rfl) (by simp) ?_
      refine AllReadyH.cons rfl (fun K hK => ?_) AllReadyH.nil
      go_simp
      go_at_call 39
      refine (F6.out _ BW.out).mono ?_
      rintro e w_44 ⟨rfl, hg⟩
      clear hHeld
      replace BW := Lib.hid (below_go BW.out hg)
      clear hg
      refine hK.out _ _ (HK7.out _ BW.out) (fun hHeld => ?_)
      clear hK K
      (try simp only [List.set_cons_zero, List.set_cons_succ])
      refine wpAnyH_takeD (i := 45) (d := 139) (v := ?_) rfl rfl (by kernel_rfl) (by kernel_rfl) (by kernel_rfl) (fun _ _ _ h => h) (Or.inl ⟨by rfl, ?_⟩) (by assumption) ?_; rotate_left
      · intro W hSw; (try dsimp only at hSw); go_simp; (try with_reducible rfl)
      (try simp only [List.set_cons_zero, List.set_cons_succ])
      refine wpAnyH_takeD (i := 46) (d := 140) (v := ?_) rfl rfl (by kernel_rfl) (by kernel_rfl) (by kernel_rfl) (fun _ _ _ h => h) (Or.inl ⟨by rfl, ?_⟩) (by assumption) ?_; rotate_left
      · intro W hSw; (try dsimp only at hSw); go_simp; (try with_reducible rfl)
      (try simp only [List.set_cons_zero, List.set_cons_succ])
      refine wpAnyH_takeD (i := 47) (d := 10) (v := ?_) rfl rfl (by kernel_rfl) (by kernel_rfl) (by kernel_rfl) (fun _ _ _ h => h) (Or.inl ⟨by rfl, ?_⟩) (by assumption) ?_; rotate_left
      · intro W hSw; (try dsimp only at hSw); go_simp; (try with_reducible rfl)
      (try simp only [List.set_cons_zero, List.set_cons_succ])
      clear hHeld
      refine wpAnyH_done (by kernel_rfl) ?_ _
      go_wp2_with fail
      go_ret
      exact ⟨rfl, BZZ.out.trans (BW.out.mono BZZ.out.size)⟩
end Go.Proofs.Ytjkjmkplcjfogaa
