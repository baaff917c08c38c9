
/- The case's Plain: a case's schema without references and checks. -/
import Derived.Test.YtjcbmeannhafjaaCSchema

namespace Go.Proofs.Ytjcbmeannhafjaa

open Go.RowKit Go.Deep

theorem SInv.base {bc B lo sb tb n : Nat} {w w0 W : World} {ver : Int} {TS : List TB} (h : SInv bc B lo w0 sb tb n ver TS W) (hm : Mv bc w w0) : SInv bc B lo w sb tb n ver TS W :=
  ⟨hm.trans h.mv, h.ok, ⟨by have := h.hlo.1; have := hm.size; omega, h.hlo.2⟩, h.htb, h.s0, h.s1, h.len, h.tabs, h.fz⟩
def bareT (t : TB) : TB := { t with rs := [], ck := [] }
/-- The first k tables are bare. -/
def stp (k : Nat) (TS : List TB) : List TB := (TS.take k).map bareT ++ TS.drop k
theorem stp_len (k : Nat) (TS : List TB) : (stp k TS).length = TS.length := by unfold stp; simp; omega
theorem stp_get (k : Nat) (TS : List TB) (h : k < TS.length) (h' : k < (stp k TS).length) : (stp k TS)[k] = TS[k] := by
  simp only [stp]
  rw [List.getElem_append_right (by simp; omega)]
  simp [Nat.min_eq_left (Nat.le_of_lt h)]
theorem stp_set (k : Nat) (TS : List TB) (h : k < TS.length) : (stp k TS).set k (bareT TS[k]) = stp (k + 1) TS := by
  unfold stp
  rw [List.set_append_right _ _ (by simp; omega)]
  simp only [List.length_map, List.length_take, Nat.min_eq_left (Nat.le_of_lt h), Nat.sub_self]
  rw [List.drop_eq_getElem_cons h, List.set_cons_zero, List.take_succ_eq_append_getElem h, List.map_append, List.append_assoc]
  rfl
/-- What Plain returns. -/
def PlnPost (bc B : Nat) (w : World) (e : Ending) (w' : World) : Prop :=
  ∃ lo sb tb n id ver, e = .returned (.agg #[.int .i64 ver, .slice (some ⟨tb, 0, none⟩) n 4]) ∧ SOk n id ver [] [] [] [] ∧ SInv bc B lo w sb tb n ver [tP, tT id [] [], tM [], tA id []] w'
theorem stp_case {n : Nat} {id ver : Int} {rs1 rs2 rs3 : List RF} {ck : List PT} (h : SOk n id ver rs1 rs2 rs3 ck) : stp n [tP, tT id rs1 ck, tM rs2, tA id rs3] = [tP, tT id [] [], tM [], tA id []] := by
  rcases h.cases with rfl | rfl | rfl
  · rw [h.h2 (by omega), h.h3 (by omega)]; rfl
  · rw [h.h3 (by omega)]; rfl
  · rfl

set_option linter.unusedSimpArgs false in
set_option maxRecDepth 100000 in
set_option maxHeartbeats 8000000 in
theorem cPlain_any (bc B : Nat) (w : World) (h : CaseOk bc B w) : Calls Try.prog 13 #[.pointer (some ⟨bc, 0, none⟩)] w (PlnPost bc B w) := by
  have hbl := h.lt
  have HS := Lib.hid (fun W (h : CaseOk bc B W) => cSchema_any bc B W h)
  have HO := Lib.hid h
  clear h
  go_enter Try.func13, Try.ntmps13
  go_wp2_with fail
  refine (HS.out _ (HO.out.alloc _)).mono ?_
  rintro e w1 ⟨lo, sb, tb, n, id, ver, rs1, rs2, rs3, ck, rfl, hsok, hsi⟩
  have HSO := Lib.hid hsok
  have hn2 : 2 ≤ n := hsok.n2
  have hn4 : n ≤ 4 := hsok.n4
  have hlw : w.heap.size < lo := by have := hsi.hlo.1; simp only [World.size_alloc] at this; omega
  have hmw := hsi.mv
  have hs1 := hsi.mv.size
  simp only [World.size_alloc] at hs1
  have q0 : ∃ v, w1.cell? ⟨w.heap.size, 0, none⟩ = some v := ⟨_, (hmw.cell (p := ⟨w.heap.size, 0, none⟩) (by simp) (show w.heap.size ≠ bc by omega)).trans (by go_simp; rfl)⟩
  have q1 : ∃ v, w1.cell? ⟨w.heap.size, 1, none⟩ = some v := ⟨_, (hmw.cell (p := ⟨w.heap.size, 1, none⟩) (by simp) (show w.heap.size ≠ bc by omega)).trans (by go_simp; rfl)⟩
  have q2 : ∀ o, w1.frozen? ⟨w.heap.size, o, none⟩ = false := fun o => (World.frozen?_of_block (a := ⟨w.heap.size, o, none⟩) (hmw.block w.heap.size (by simp) (by omega))).trans (by go_simp)
  obtain ⟨v0, q0⟩ := q0
  obtain ⟨v1, q1⟩ := q1
  have HSI := Lib.hid (hsi.base (w := w) ((Mv.refl _ _).alloc _))
  obtain ⟨TS, hTS⟩ : ∃ TS, [tP, tT id rs1 ck, tM rs2, tA id rs3] = TS := ⟨_, rfl⟩
  have HTS := Lib.hid hTS
  rw [hTS] at HSI
  have HTL : Hid (TS.length = 4) := by show _ = _; rw [← hTS]; rfl
  obtain ⟨wa, hwa⟩ : ∃ wa, w1.alloc (.cells #[.int .i64 ver, .slice (some ⟨tb, 0, none⟩) n 4] 25) = wa := ⟨_, rfl⟩
  obtain ⟨bx, hbx⟩ : ∃ bx, w1.heap.size = bx := ⟨_, rfl⟩
  have hwas : wa.heap.size = bx + 1 := by rw [← hwa, ← hbx]; simp
  have z0 : wa.cell? ⟨bx, 0, none⟩ = some (.int .i64 ver) := by subst hbx; subst hwa; go_simp
  have z1 : wa.cell? ⟨bx, 1, none⟩ = some (.slice (some ⟨tb, 0, none⟩) n 4) := by subst hbx; subst hwa; go_simp
  have HSA : Hid (SInv bc B lo w sb tb n ver (stp 0 TS) wa) := by rw [← hwa]; exact HSI.out.alloc _
  have hbk : wa.heap[w.heap.size]? = w1.heap[w.heap.size]? := by rw [← hwa]; exact ((Below.refl w1.heap.size w1).alloc (Nat.le_refl _) _).block _ (by omega)
  obtain ⟨t1, t2, -, -, -⟩ := hsi.htb
  have hbt : bx ≠ tb := by omega
  have HQ : Hid (∀ W : World, W.heap[bx]? = wa.heap[bx]? → W.cell? ⟨bx, 0, none⟩ = some (.int .i64 ver) ∧ W.cell? ⟨bx, 1, none⟩ = some (.slice (some ⟨tb, 0, none⟩) n 4)) := fun W hb =>
    ⟨(World.cell?_of_block (a := ⟨bx, 0, none⟩) hb).trans z0, (World.cell?_of_block (a := ⟨bx, 1, none⟩) hb).trans z1⟩
  have HQW : Hid (∀ W : World, W.heap[w.heap.size]? = wa.heap[w.heap.size]? → W.cell? ⟨w.heap.size, 0, none⟩ = some v0 ∧ W.cell? ⟨w.heap.size, 1, none⟩ = some v1 ∧ W.frozen? ⟨w.heap.size, 0, none⟩ = false ∧ W.frozen? ⟨w.heap.size, 1, none⟩ = false) := fun W hb =>
    ⟨(World.cell?_of_block (a := ⟨w.heap.size, 0, none⟩) (hb.trans hbk)).trans q0, (World.cell?_of_block (a := ⟨w.heap.size, 1, none⟩) (hb.trans hbk)).trans q1, (World.frozen?_of_block (a := ⟨w.heap.size, 0, none⟩) (hb.trans hbk)).trans (q2 0), (World.frozen?_of_block (a := ⟨w.heap.size, 1, none⟩) (hb.trans hbk)).trans (q2 1)⟩
  have HWA := Lib.hid hwa
  have HBX := Lib.hid hbx
  clear hsok hsi hmw q0 q1 q2 hTS hwa hbk hbx HS HSI
  go_wp2_with fail
  rw [HWA.out, HBX.out]
  clear HWA HBX
  go_wp2_with fail
  go_loopw [10] (fun i wr => ∃ k : Nat, k ≤ n ∧ i = .int .i64 k ∧ Hid (SInv bc B lo w sb tb n ver (stp k TS) wr) ∧ Hid (wr.heap[bx]? = wa.heap[bx]? ∧ wr.heap[w.heap.size]? = wa.heap[w.heap.size]?)) (fun i _ => n - (intOf i).toNat)
  case atStart => exact ⟨0, by omega, rfl, HSA, rfl, rfl⟩
  case round =>
    obtain ⟨k, hk, rfl, HX, HK⟩ := hrel
    obtain ⟨q0, q1⟩ := HQ.out wr HK.out.1
    by_cases hkn : k < n
    · have hkn' : (k : Int) < n := by omega
      have hkT : k < (stp k TS).length := by rw [stp_len, HTL.out]; omega
      go_upto_region 5 with fail
      refine wp_region_held_drew (S := fun W => W.cell? ⟨bx, 0, none⟩ = some (.int .i64 ver) ∧ W.cell? ⟨bx, 1, none⟩ = some (.slice (some ⟨tb, 0, none⟩) n 4)) (by kernel_rfl) ⟨by go_simp, by go_simp⟩ (fun hHeld => ?_)
      obtain ⟨wd, hwd⟩ : ∃ wd, wr.drew = wd := ⟨_, rfl⟩
      have hbd : Below wr.heap.size wr wd := by rw [← hwd]; exact (Below.refl _ _).drew
      have hhd : wd.heap = wr.heap := by rw [← hwd]; rfl
      have HSD := Lib.hid (HX.out.step (Mv.of_below hbd) (HX.out.ok.below hbd HX.out.ok.lt.2))
      have HKD : Hid (wd.heap[bx]? = wa.heap[bx]? ∧ wd.heap[w.heap.size]? = wa.heap[w.heap.size]?) := by rw [hhd]; exact HK.out
      rw [hwd] at hHeld ⊢
      obtain ⟨u1, u2, -, -, -⟩ := HSD.out.htb
      have HX1 := Lib.hid (HSD.out.refs k hkT [] (.slice none 0 0) (SlR.nil _ _ _))
      have hkT2 : k < ((stp k TS).set k { (stp k TS)[k] with rs := [] }).length := by simpa using hkT
      have HX2 := Lib.hid (HX1.out.chks k hkT2 [] none 0 (PdS.nil _ _))
      have ff3 := HSD.out.fz (k * 5 + 3)
      have ff4 := HSD.out.fz (k * 5 + 4)
      obtain ⟨_, _, _, _, ⟨-, -, -, c3, c4⟩, -⟩ := HSD.out.tabs k hkT
      have HE : Hid (((stp k TS).set k { (stp k TS)[k] with rs := [] }).set k { ((stp k TS).set k { (stp k TS)[k] with rs := [] })[k] with ck := [] } = stp (k + 1) TS) := by
        show _ = _
        rw [List.set_set, List.getElem_set_self, stp_get k TS (by rw [HTL.out]; omega)]
        exact stp_set k TS (by rw [HTL.out]; omega)
      rw [HE.out] at HX2
      clear hwd hbd hhd HE
      refine wpAnyH_takeD (i := 0) (d := 13) (v := ?_) rfl rfl (by kernel_rfl) (by kernel_rfl) (by kernel_rfl) (fun _ _ _ h => h) (Or.inl ⟨by rfl, ?_⟩) (by assumption) ?_; rotate_left
      · intro W hSw; (try dsimp only at hSw); go_simp; (try with_reducible rfl)
      (try simp only [List.set_cons_zero, List.set_cons_succ])
      refine wpAnyH_takeD (i := 1) (d := 14) (v := ?_) rfl rfl (by kernel_rfl) (by kernel_rfl) (by kernel_rfl) (fun _ _ _ h => h) (Or.inl ⟨by rfl, ?_⟩) (by assumption) ?_; rotate_left
      · intro W hSw; (try dsimp only at hSw); go_simp; (try with_reducible rfl)
      (try simp only [List.set_cons_zero, List.set_cons_succ])
      refine wpAnyH_takeD (i := 2) (d := 15) (v := ?_) rfl rfl (by kernel_rfl) (by kernel_rfl) (by kernel_rfl) (fun _ _ _ h => h) (Or.inl ⟨by rfl, ?_⟩) (by assumption) ?_; rotate_left
      · intro W hSw; (try dsimp only at hSw); go_simp; (try with_reducible rfl)
      (try simp only [List.set_cons_zero, List.set_cons_succ])
      refine wpAnyH_takeD (i := 3) (d := 16) (v := ?_) rfl rfl (by kernel_rfl) (by kernel_rfl) (by kernel_rfl) (fun _ _ _ h => h) (Or.inl ⟨by rfl, ?_⟩) (by assumption) ?_; rotate_left
      · intro W hSw; (try dsimp only at hSw); go_simp; (try with_reducible rfl)
      (try simp only [List.set_cons_zero, List.set_cons_succ])
      refine wpAnyH_takeD (i := 4) (d := 17) (v := ?_) rfl rfl (by kernel_rfl) (by kernel_rfl) (by kernel_rfl) (fun _ _ _ h => h) (Or.inl ⟨by rfl, ?_⟩) (by assumption) ?_; rotate_left
      · intro W hSw; (try dsimp only at hSw); go_simp; (try with_reducible rfl)
      (try simp only [List.set_cons_zero, List.set_cons_succ])
      refine wpAnyH_takeD (i := 5) (d := 18) (v := ?_) rfl rfl (by kernel_rfl) (by kernel_rfl) (by kernel_rfl) (fun _ _ _ h => h) (Or.inl ⟨by rfl, ?_⟩) (by assumption) ?_; rotate_left
      · intro W hSw; (try dsimp only at hSw); go_simp; (try with_reducible rfl)
      (try simp only [List.set_cons_zero, List.set_cons_succ])
      refine wpAnyH_takeD (i := 6) (d := 19) (v := ?_) rfl rfl (by kernel_rfl) (by kernel_rfl) (by kernel_rfl) (fun _ _ _ h => h) (Or.inl ⟨by rfl, ?_⟩) (by assumption) ?_; rotate_left
      · intro W hSw; (try dsimp only at hSw); go_simp; (try with_reducible rfl)
      (try simp only [List.set_cons_zero, List.set_cons_succ])
      refine wpAnyH_takeD (i := 7) (d := 20) (v := ?_) rfl rfl (by kernel_rfl) (by kernel_rfl) (by kernel_rfl) (fun _ _ _ h => h) (Or.inl ⟨by rfl, ?_⟩) (by assumption) ?_; rotate_left
      · intro W hSw; (try dsimp only at hSw); go_simp; (try with_reducible rfl)
      (try simp only [List.set_cons_zero, List.set_cons_succ])
      refine wpAnyH_ready (rs := [8]) (by kernel_rfl) (by simp) ?_
      refine AllReadyH.cons rfl (fun K hK => ?_) AllReadyH.nil
      go_simp
      obtain ⟨we, hwe⟩ : ∃ we, wd.setCell ⟨tb, k * 5 + 3, none⟩ (.slice none 0 0) = we := ⟨_, rfl⟩
      have hbe : ∀ b, b ≠ tb → we.heap[b]? = wd.heap[b]? := fun b hb => by rw [← hwe]; exact Below.heap_setCell _ _ _ _ hb
      have c4e : ∃ v, we.cell? ⟨tb, k * 5 + 4, none⟩ = some v := ⟨_, by rw [← hwe]; exact (World.cell?_setCell_other _ _ _ _ (by simp)).trans c4⟩
      obtain ⟨v4, c4e⟩ := c4e
      have ff5 : we.frozen? ⟨tb, k * 5 + 4, none⟩ = false := by rw [← hwe, World.frozen?_setCell]; exact ff4
      have hse : tb < we.heap.size := by rw [← hwe]; simpa using u2
      have HKE : Hid (we.heap[bx]? = wa.heap[bx]? ∧ we.heap[w.heap.size]? = wa.heap[w.heap.size]?) := ⟨(hbe _ hbt).trans HKD.out.1, (hbe _ (by omega)).trans HKD.out.2⟩
      rw [hwe] at HX1 HX2 ⊢
      clear hwe hbe hHeld ff3 ff4 c3 c4
      refine hK.out _ _ (HQ.out we HKE.out.1) (fun hHeld => ?_)
      clear hK K
      (try simp only [List.set_cons_zero, List.set_cons_succ])
      refine wpAnyH_takeD (i := 9) (d := 21) (v := ?_) rfl rfl (by kernel_rfl) (by kernel_rfl) (by kernel_rfl) (fun _ _ _ h => h) (Or.inl ⟨by rfl, ?_⟩) (by assumption) ?_; rotate_left
      · intro W hSw; (try dsimp only at hSw); go_simp; (try with_reducible rfl)
      (try simp only [List.set_cons_zero, List.set_cons_succ])
      refine wpAnyH_takeD (i := 10) (d := 22) (v := ?_) rfl rfl (by kernel_rfl) (by kernel_rfl) (by kernel_rfl) (fun _ _ _ h => h) (Or.inl ⟨by rfl, ?_⟩) (by assumption) ?_; rotate_left
      · intro W hSw; (try dsimp only at hSw); go_simp; (try with_reducible rfl)
      (try simp only [List.set_cons_zero, List.set_cons_succ])
      refine wpAnyH_ready (rs := [11]) (by kernel_rfl) (by simp) ?_
      refine AllReadyH.cons rfl (fun K hK => ?_) AllReadyH.nil
      go_simp
      obtain ⟨wf, hwf⟩ : ∃ wf, we.setCell ⟨tb, k * 5 + 4, none⟩ (.slice none 0 0) = wf := ⟨_, rfl⟩
      have hbf : ∀ b, b ≠ tb → wf.heap[b]? = we.heap[b]? := fun b hb => by rw [← hwf]; exact Below.heap_setCell _ _ _ _ hb
      have HKF : Hid (wf.heap[bx]? = wa.heap[bx]? ∧ wf.heap[w.heap.size]? = wa.heap[w.heap.size]?) := ⟨(hbf _ hbt).trans HKE.out.1, (hbf _ (by omega)).trans HKE.out.2⟩
      have HX3 : Hid (SInv bc B lo w sb tb n ver (stp (k + 1) TS) wf) := by rw [← hwf]; exact HX2.out
      rw [hwf]
      clear hwf hbf hHeld HX1 HX2 c4e ff5
      refine hK.out _ _ (HQ.out wf HKF.out.1) (fun hHeld => ?_)
      clear hK K hHeld
      (try simp only [List.set_cons_zero, List.set_cons_succ])
      refine wpAnyH_done (by kernel_rfl) ?_ _
      go_wp2_with fail
      go_roundw
      case rel => exact ⟨k + 1, by omega, by go_num, HX3, HKF⟩
      case measure => simp [intOf]; omega
    · have hke : k = n := by omega
      subst hke
      have HF := Lib.hid ((HX.out.setOld (Nat.le_refl _) hbl.2 hlw 0 (.int .i64 ver)).setOld (Nat.le_refl _) hbl.2 hlw 1 (.slice (some ⟨tb, 0, none⟩) k 4))
      obtain ⟨r0, r1, f0, f1⟩ := HQW.out wr HK.out.2
      have hww : w.heap.size < wr.heap.size := by have := HX.out.htb; omega
      go_wp2_with fail
      refine bodyPost_ret (v := .agg #[.int .i64 ver, .slice (some ⟨tb, 0, none⟩) k 4]) (by simp [results, Try.results13, go_sem, *]) rfl ?_
      refine ⟨lo, sb, tb, k, id, ver, rfl, ⟨hn2, hn4, HSO.out.hid, HSO.out.hv, .inl rfl, .inl rfl, .inl rfl, fun _ => rfl, fun _ => rfl, .inl rfl⟩, ?_⟩
      have h := HF.out
      rw [← HTS.out, stp_case HSO.out] at h
      exact h
end Go.Proofs.Ytjcbmeannhafjaa
