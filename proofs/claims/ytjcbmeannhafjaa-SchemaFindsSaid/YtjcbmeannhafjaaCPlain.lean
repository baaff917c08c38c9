
/- The case's Plain: a case's schema without references and checks. -/
import Derived.Test.YtjcbmeannhafjaaCSchema

import Derived.Test.YtjcbmeannhafjaaPdEvery
import Derived.Test.YtjcbmeannhafjaaPdHolds
import Derived.Test.YtjcbmeannhafjaaCase5
import Derived.Maps.AppendAt
import Derived.Test.YtjcbmeannhafjaaPdInts
import Derived.Test.YtjcbmeannhafjaaPdIc
import Derived.Shelf.Sort.Plain
import Derived.Shelf.Slices.In.SortNone
import Derived.Shelf.Slices.CompactI
import Derived.Laws.EntriesVeiled

import Derived.Test.YtjcbmeannhafjaaScCheck

namespace Go.Proofs.Ytjcbmeannhafjaa

open Go.RowKit Go.Deep

theorem SInv.base {bc B lo sb tb n : Nat} {w w0 W : World} {ver : Int} {TS : List TB} (h : SInv bc B lo w0 sb tb n ver TS W) (hm : Mv bc w w0) : SInv bc B lo w sb tb n ver TS W :=
  ⟨hm.trans h.mv, h.ok, ⟨by have := h.hlo.1; have := hm.size; omega, h.hlo.2⟩, h.htb, h.s0, h.s1, h.len, h.tabs, h.fz⟩
def bareT (t : TB) : TB := { t with rs := [], ck := [] }
/-- The first k tables are bare. -/
def stp (k : Nat) (TS : List TB) : List TB := (TS.take k).map bareT ++ TS.drop k
theorem stp_len (k : Nat) (TS : List TB) : (stp k TS).length = TS.length := by unfold stp; simp; omega
theorem stp_get (k : Nat) (TS : List TB) (h : k < TS.length) (h' : k < (stp k TS).length) : (stp k TS)[k] = TS[k] := by
  simp only [stp]
  rw [List.getElem_append_right (by simp; omega)]
  simp [Nat.min_eq_left (Nat.le_of_lt h)]
theorem stp_set (k : Nat) (TS : List TB) (h : k < TS.length) : (stp k TS).set k (bareT TS[k]) = stp (k + 1) TS := by
  unfold stp
  rw [List.set_append_right _ _ (by simp; omega)]
  simp only [List.length_map, List.length_take, Nat.min_eq_left (Nat.le_of_lt h), Nat.sub_self]
  rw [List.drop_eq_getElem_cons h, List.set_cons_zero, List.take_succ_eq_append_getElem h, List.map_append, List.append_assoc]
  rfl
/-- What Plain returns. -/
def PlnPost (bc B : Nat) (w : World) (e : Ending) (w' : World) : Prop :=
  ∃ lo sb tb n id ver, e = .returned (.agg #[.int .i64 ver, .slice (some ⟨tb, 0, none⟩) n 4]) ∧ SOk n id ver [] [] [] [] ∧ SInv bc B lo w sb tb n ver [tP, tT id [] [], tM [], tA id []] w'
theorem stp_case {n : Nat} {id ver : Int} {rs1 rs2 rs3 : List RF} {ck : List PT} (h : SOk n id ver rs1 rs2 rs3 ck) : stp n [tP, tT id rs1 ck, tM rs2, tA id rs3] = [tP, tT id [] [], tM [], tA id []] := by
  rcases h.cases with rfl | rfl | rfl
  · rw [h.h2 (by omega), h.h3 (by omega)]; rfl
  · rw [h.h3 (by omega)]; rfl
  · rfl

set_option linter.unusedSimpArgs false in
set_option maxRecDepth 100000 in
set_option maxHeartbeats 8000000 in
theorem cPlain_any (bc B : Nat) (w : World) (h : CaseOk bc B w) : Calls Try.prog 13 #[.pointer (some ⟨bc, 0, none⟩)] w (PlnPost bc B w) := by
  have hbl := h.lt
  have HS := Lib.hid (fun W (h : CaseOk bc B W) => cSchema_any bc B W h)
  have HO := Lib.hid h
  clear h
  go_enter Try.func13, Try.ntmps13
  go_wp2_with fail
  refine (HS.out _ (HO.out.alloc _)).mono ?_
  rintro e w1 ⟨lo, sb, tb, n, id, ver, rs1, rs2, rs3, ck, rfl, hsok, hsi⟩
  have HSO := Lib.hid hsok
  have hn2 : 2 ≤ n := hsok.n2
  have hn4 : n ≤ 4 := hsok.n4
  have hlw : w.heap.size < lo := by have := hsi.hlo.1; simp only [World.size_alloc] at this; omega
  have hmw := hsi.mv
  have hs1 := hsi.mv.size
  simp only [World.size_alloc] at hs1
  have q0 : ∃ v, w1.cell? ⟨w.heap.size, 0, none⟩ = some v := ⟨_, (hmw.cell (p := ⟨w.heap.size, 0, none⟩) (by simp) (show w.heap.size ≠ bc by omega)).trans (by go_simp; rfl)⟩
  have q1 : ∃ v, w1.cell? ⟨w.heap.size, 1, none⟩ = some v := ⟨_, (hmw.cell (p := ⟨w.heap.size, 1, none⟩) (by simp) (show w.heap.size ≠ bc by omega)).trans (by go_simp; rfl)⟩
  have q2 : ∀ o, w1.frozen? ⟨w.heap.size, o, none⟩ = false := fun o => (World.frozen?_of_block (a := ⟨w.heap.size, o, none⟩) (hmw.block w.heap.size (by simp) (by omega))).trans (by go_simp)
  obtain ⟨v0, q0⟩ := q0
  obtain ⟨v1, q1⟩ := q1
  have HSI := Lib.hid (hsi.base (w := w) ((Mv.refl _ _).alloc _))
  obtain ⟨TS, hTS⟩ : ∃ TS, [tP, tT id rs1 ck, tM rs2, tA id rs3] = TS := ⟨_, rfl⟩
  have HTS := Lib.hid hTS
  rw [hTS] at HSI
  have HTL : Hid (TS.length = 4) := by show _ = _; rw [← hTS]; rfl
  obtain ⟨wa, hwa⟩ : ∃ wa, w1.alloc (.cells #[.int .i64 ver, .slice (some ⟨tb, 0, none⟩) n 4] 25) = wa := ⟨_, rfl⟩
  obtain ⟨bx, hbx⟩ : ∃ bx, w1.heap.size = bx := ⟨_, rfl⟩
  have hwas : wa.heap.size = bx + 1 := by rw [← hwa, ← hbx]; simp
  have z0 : wa.cell? ⟨bx, 0, none⟩ = some (.int .i64 ver) := by subst hbx; subst hwa; go_simp
  have z1 : wa.cell? ⟨bx, 1, none⟩ = some (.slice (some ⟨tb, 0, none⟩) n 4) := by subst hbx; subst hwa; go_simp
  have HSA : Hid (SInv bc B lo w sb tb n ver (stp 0 TS) wa) := by rw [← hwa]; exact HSI.out.alloc _
  have hbk : wa.heap[w.heap.size]? = w1.heap[w.heap.size]? := by rw [← hwa]; exact ((Below.refl w1.heap.size w1).alloc (Nat.le_refl _) _).block _ (by omega)
  obtain ⟨t1, t2, -, -, -⟩ := hsi.htb
  have hbt : bx ≠ tb := by omega
  have HQ : Hid (∀ W : World, W.heap[bx]? = wa.heap[bx]? → W.cell? ⟨bx, 0, none⟩ = some (.int .i64 ver) ∧ W.cell? ⟨bx, 1, none⟩ = some (.slice (some ⟨tb, 0, none⟩) n 4)) := fun W hb =>
    ⟨(World.cell?_of_block (a := ⟨bx, 0, none⟩) hb).trans z0, (World.cell?_of_block (a := ⟨bx, 1, none⟩) hb).trans z1⟩
  have HQW : Hid (∀ W : World, W.heap[w.heap.size]? = wa.heap[w.heap.size]? → W.cell? ⟨w.heap.size, 0, none⟩ = some v0 ∧ W.cell? ⟨w.heap.size, 1, none⟩ = some v1 ∧ W.frozen? ⟨w.heap.size, 0, none⟩ = false ∧ W.frozen? ⟨w.heap.size, 1, none⟩ = false) := fun W hb =>
    ⟨(World.cell?_of_block (a := ⟨w.heap.size, 0, none⟩) (hb.trans hbk)).trans q0, (World.cell?_of_block (a := ⟨w.heap.size, 1, none⟩) (hb.trans hbk)).trans q1, (World.frozen?_of_block (a := ⟨w.heap.size, 0, none⟩) (hb.trans hbk)).trans (q2 0), (World.frozen?_of_block (a := ⟨w.heap.size, 1, none⟩) (hb.trans hbk)).trans (q2 1)⟩
  have HWA := Lib.hid hwa
  have HBX := Lib.hid hbx
  clear hsok hsi hmw q0 q1 q2 hTS hwa hbk hbx HS HSI
  go_wp2_with fail
  rw [HWA.out, HBX.out]
  clear HWA HBX
  go_wp2_with fail
  go_loopw [10] (fun i wr => ∃ k : Nat, k ≤ n ∧ i = .int .i64 k ∧ Hid (SInv bc B lo w sb tb n ver (stp k TS) wr) ∧ Hid (wr.heap[bx]? = wa.heap[bx]? ∧ wr.heap[w.heap.size]? = wa.heap[w.heap.size]?)) (fun i _ => n - (intOf i).toNat)
  case atStart => exact ⟨0, by omega, rfl, HSA, rfl, rfl⟩
  case round =>
    obtain ⟨k, hk, rfl, HX, HK⟩ := hrel
    obtain ⟨q0, q1⟩ := HQ.out wr HK.out.1
    by_cases hkn : k < n
    · have hkn' : (k : Int) < n := by omega
      have hkT : k < (stp k TS).length := by rw [stp_len, HTL.out]; omega
      go_upto_region 5 with fail
      refine wp_region_held_drew (S := fun W => W.cell? ⟨bx, 0, none⟩ = some (.int .i64 ver) ∧ W.cell? ⟨bx, 1, none⟩ = some (.slice (some ⟨tb, 0, none⟩) n 4)) (by kernel_rfl) ⟨by go_simp, by go_simp⟩ (fun hHeld => ?_)
      obtain ⟨wd, hwd⟩ : ∃ wd, wr.drew = wd := ⟨_, rfl⟩
      have hbd : Below wr.heap.size wr wd := by rw [← hwd]; exact (Below.refl _ _).drew
      have hhd : wd.heap = wr.heap := by rw [← hwd]; rfl
      have HSD := Lib.hid (HX.out.step (Mv.of_below hbd) (HX.out.ok.below hbd HX.out.ok.lt.2))
      have HKD : Hid (wd.heap[bx]? = wa.heap[bx]? ∧ wd.heap[w.heap.size]? = wa.heap[w.heap.size]?) := by rw [hhd]; exact HK.out
      rw [hwd] at hHeld ⊢
      obtain ⟨u1, u2, -, -, -⟩ := HSD.out.htb
      have HX1 := Lib.hid (HSD.out.refs k hkT [] (.slice none 0 0) (SlR.nil _ _ _))
      have hkT2 : k < ((stp k TS).set k { (stp k TS)[k] with rs := [] }).length := by simpa using hkT
      have HX2 := Lib.hid (HX1.out.chks k hkT2 [] none 0 (PdS.nil _ _))
      have ff3 := HSD.out.fz (k * 5 + 3)
      have ff4 := HSD.out.fz (k * 5 + 4)
      obtain ⟨_, _, _, _, ⟨-, -, -, c3, c4⟩, -⟩ := HSD.out.tabs k hkT
      have HE : Hid (((stp k TS).set k { (stp k TS)[k] with rs := [] }).set k { ((stp k TS).set k { (stp k TS)[k] with rs := [] })[k] with ck := [] } = stp (k + 1) TS) := by
        show _ = _
        rw [List.set_set, List.getElem_set_self, stp_get k TS (by rw [HTL.out]; omega)]
        exact stp_set k TS (by rw [HTL.out]; omega)
      rw [HE.out] at HX2
      clear hwd hbd hhd HE
      refine wpAnyH_takeD (i := 0) (d := 13) (v := ?_) rfl rfl (by kernel_rfl) (by kernel_rfl) (by kernel_rfl) (fun _ _ _ h => h) (Or.inl ⟨by rfl, ?_⟩) (by assumption) ?_; rotate_left
      · intro W hSw; (try dsimp only at hSw); go_simp; (try with_reducible rfl)
      (try simp only [List.set_cons_zero, List.set_cons_succ])
      refine wpAnyH_takeD (i := 1) (d := 14) (v := ?_) rfl rfl (by kernel_rfl) (by kernel_rfl) (by kernel_rfl) (fun _ _ _ h => h) (Or.inl ⟨by rfl, ?_⟩) (by assumption) ?_; rotate_left
      · intro W hSw; (try dsimp only at hSw); go_simp; (try with_reducible rfl)
      (try simp only [List.set_cons_zero, List.set_cons_succ])
      refine wpAnyH_takeD (i := 2) (d := 15) (v := ?_) rfl rfl (by kernel_rfl) (by kernel_rfl) (by kernel_rfl) (fun _ _ _ h => h) (Or.inl ⟨by rfl, ?_⟩) (by assumption) ?_; rotate_left
      · intro W hSw; (try dsimp only at hSw); go_simp; (try with_reducible rfl)
      (try simp only [List.set_cons_zero, List.set_cons_succ])
      refine wpAnyH_takeD (i := 3) (d := 16) (v := ?_) rfl rfl (by kernel_rfl) (by kernel_rfl) (by kernel_rfl) (fun _ _ _ h => h) (Or.inl ⟨by rfl, ?_⟩) (by assumption) ?_; rotate_left
      · intro W hSw; (try dsimp only at hSw); go_simp; (try with_reducible rfl)
      (try simp only [List.set_cons_zero, List.set_cons_succ])
      refine wpAnyH_takeD (i := 4) (d := 17) (v := ?_) rfl rfl (by kernel_rfl) (by kernel_rfl) (by kernel_rfl) (fun _ _ _ h => h) (Or.inl ⟨by rfl, ?_⟩) (by assumption) ?_; rotate_left
      · intro W hSw; (try dsimp only at hSw); go_simp; (try with_reducible rfl)
      (try simp only [List.set_cons_zero, List.set_cons_succ])
      refine wpAnyH_takeD (i := 5) (d := 18) (v := ?_) rfl rfl (by kernel_rfl) (by kernel_rfl) (by kernel_rfl) (fun _ _ _ h => h) (Or.inl ⟨by rfl, ?_⟩) (by assumption) ?_; rotate_left
      · intro W hSw; (try dsimp only at hSw); go_simp; (try with_reducible rfl)
      (try simp only [List.set_cons_zero, List.set_cons_succ])
      refine wpAnyH_takeD (i := 6) (d := 19) (v := ?_) rfl rfl (by kernel_rfl) (by kernel_rfl) (by kernel_rfl) (fun _ _ _ h => h) (Or.inl ⟨by rfl, ?_⟩) (by assumption) ?_; rotate_left
      · intro W hSw; (try dsimp only at hSw); go_simp; (try with_reducible rfl)
      (try simp only [List.set_cons_zero, List.set_cons_succ])
      refine wpAnyH_takeD (i := 7) (d := 20) (v := ?_) rfl rfl (by kernel_rfl) (by kernel_rfl) (by kernel_rfl) (fun _ _ _ h => h) (Or.inl ⟨by rfl, ?_⟩) (by assumption) ?_; rotate_left
      · intro W hSw; (try dsimp only at hSw); go_simp; (try with_reducible rfl)
      (try simp only [List.set_cons_zero, List.set_cons_succ])
      refine wpAnyH_ready (rs := [8]) (by kernel_rfl) (by simp) ?_
      refine AllReadyH.cons rfl (fun K hK => ?_) AllReadyH.nil
      go_simp
      obtain ⟨we, hwe⟩ : ∃ we, wd.setCell ⟨tb, k * 5 + 3, none⟩ (.slice none 0 0) = we := ⟨_, rfl⟩
      have hbe : ∀ b, b ≠ tb → we.heap[b]? = wd.heap[b]? := fun b hb => by rw [← hwe]; exact Below.heap_setCell _ _ _ _ hb
      have c4e : ∃ v, we.cell? ⟨tb, k * 5 + 4, none⟩ = some v := ⟨_, by rw [← hwe]; exact (World.cell?_setCell_other _ _ _ _ (by simp)).trans c4⟩
      obtain ⟨v4, c4e⟩ := c4e
      have ff5 : we.frozen? ⟨tb, k * 5 + 4, none⟩ = false := by rw [← hwe, World.frozen?_setCell]; exact ff4
      have hse : tb < we.heap.size := by rw [← hwe]; simpa using u2
      have HKE : Hid (we.heap[bx]? = wa.heap[bx]? ∧ we.heap[w.heap.size]? = wa.heap[w.heap.size]?) := ⟨(hbe _ hbt).trans HKD.out.1, (hbe _ (by omega)).trans HKD.out.2⟩
      rw [hwe] at HX1 HX2 ⊢
      clear hwe hbe hHeld ff3 ff4 c3 c4
      refine hK.out _ _ (HQ.out we HKE.out.1) (fun hHeld => ?_)
      clear hK K
      (try simp only [List.set_cons_zero, List.set_cons_succ])
      refine wpAnyH_takeD (i := 9) (d := 21) (v := ?_) rfl rfl (by kernel_rfl) (by kernel_rfl) (by kernel_rfl) (fun _ _ _ h => h) (Or.inl ⟨by rfl, ?_⟩) (by assumption) ?_; rotate_left
      · intro W hSw; (try dsimp only at hSw); go_simp; (try with_reducible rfl)
      (try simp only [List.set_cons_zero, List.set_cons_succ])
      refine wpAnyH_takeD (i := 10) (d := 22) (v := ?_) rfl rfl (by kernel_rfl) (by kernel_rfl) (by kernel_rfl) (fun _ _ _ h => h) (Or.inl ⟨by rfl, ?_⟩) (by assumption) ?_; rotate_left
      · intro W hSw; (try dsimp only at hSw); go_simp; (try with_reducible rfl)
      (try simp only [List.set_cons_zero, List.set_cons_succ])
      refine wpAnyH_ready (rs := [11]) (by kernel_rfl) (by simp) ?_
      refine AllReadyH.cons rfl (fun K hK => ?_) AllReadyH.nil
      go_simp
      obtain ⟨wf, hwf⟩ : ∃ wf, we.setCell ⟨tb, k * 5 + 4, none⟩ (.slice none 0 0) = wf := ⟨_, rfl⟩
      have hbf : ∀ b, b ≠ tb → wf.heap[b]? = we.heap[b]? := fun b hb => by rw [← hwf]; exact Below.heap_setCell _ _ _ _ hb
      have HKF : Hid (wf.heap[bx]? = wa.heap[bx]? ∧ wf.heap[w.heap.size]? = wa.heap[w.heap.size]?) := ⟨(hbf _ hbt).trans HKE.out.1, (hbf _ (by omega)).trans HKE.out.2⟩
      have HX3 : Hid (SInv bc B lo w sb tb n ver (stp (k + 1) TS) wf) := by rw [← hwf]; exact HX2.out
      rw [hwf]
      clear hwf hbf hHeld HX1 HX2 c4e ff5
      refine hK.out _ _ (HQ.out wf HKF.out.1) (fun hHeld => ?_)
      clear hK K hHeld
      (try simp only [List.set_cons_zero, List.set_cons_succ])
      refine wpAnyH_done (by kernel_rfl) ?_ _
      go_wp2_with fail
      go_roundw
      case rel => exact ⟨k + 1, by omega, by go_num, HX3, HKF⟩
      case measure => simp [intOf]; omega
    · have hke : k = n := by omega
      subst hke
      have HF := Lib.hid ((HX.out.setOld (Nat.le_refl _) hbl.2 hlw 0 (.int .i64 ver)).setOld (Nat.le_refl _) hbl.2 hlw 1 (.slice (some ⟨tb, 0, none⟩) k 4))
      obtain ⟨r0, r1, f0, f1⟩ := HQW.out wr HK.out.2
      have hww : w.heap.size < wr.heap.size := by have := HX.out.htb; omega
      go_wp2_with fail
      refine bodyPost_ret (v := .agg #[.int .i64 ver, .slice (some ⟨tb, 0, none⟩) k 4]) (by simp [results, Try.results13, go_sem, *]) rfl ?_
      refine ⟨lo, sb, tb, k, id, ver, rfl, ⟨hn2, hn4, HSO.out.hid, HSO.out.hv, .inl rfl, .inl rfl, .inl rfl, fun _ => rfl, fun _ => rfl, .inl rfl⟩, ?_⟩
      have h := HF.out
      rw [← HTS.out, stp_case HSO.out] at h
      exact h
end Go.Proofs.Ytjcbmeannhafjaa

/- Lists of tables as own rows: append. -/
namespace Go.Proofs.Ytjcbmeannhafjaa

open Go.RowKit Go.Deep

/-- A table with where its lists lie. -/
structure TX where
  ca : Option Addr
  cc : Nat
  ra : Option Addr
  rc : Nat
  pa : Option Addr
  pc : Nat
  t : TB
def TX.cells (x : TX) : List Value := [.string x.t.s, .slice x.ca x.t.cs.length x.cc, .int .i64 x.t.key, .slice x.ra x.t.rs.length x.rc, .slice x.pa x.t.ck.length x.pc]
def TX.Ok (P : Nat → Prop) (W : World) (x : TX) : Prop := TbP P W (.slice x.ca x.t.cs.length x.cc) (.slice x.ra x.t.rs.length x.rc) x.pa x.pc x.t
def txCells (L : List TX) : List Value := L.flatMap TX.cells
theorem length_txCells : ∀ L : List TX, (txCells L).length = L.length * 5
  | [] => rfl
  | x :: r => by
    have := length_txCells r
    unfold txCells at this ⊢
    simp [TX.cells, this]; omega
theorem txCells_snoc (L : List TX) (x : TX) : txCells (L ++ [x]) = txCells L ++ x.cells := by unfold txCells; simp
theorem txCells_at : ∀ (L : List TX) (i : Nat) (h : i < L.length) (j : Nat), j < 5 → (txCells L)[i * 5 + j]? = (L[i].cells)[j]?
  | x :: r, 0, _, j, hj => by
    unfold txCells
    rw [List.flatMap_cons, List.getElem?_append_left (by simp [TX.cells]; omega)]
    simp
  | x :: r, i + 1, h, j, hj => by
    have ih := txCells_at r i (by simpa using h) j hj
    have : (i + 1) * 5 + j = 5 + (i * 5 + j) := by omega
    rw [this]
    unfold txCells at ih ⊢
    rw [List.flatMap_cons, List.getElem?_append_right (by simp [TX.cells])]
    simp [TX.cells]
    simpa [TX.cells] using ih
theorem tx_one (x : TX) : ∀ u ∈ x.cells, u.oneCell' = true := by
  intro u hu
  unfold TX.cells at hu
  simp only [List.mem_cons, List.not_mem_nil, or_false] at hu
  rcases hu with rfl | rfl | rfl | rfl | rfl <;> rfl
theorem txs_one (L : List TX) : ∀ u ∈ txCells L, u.oneCell' = true := by
  intro u hu
  unfold txCells at hu
  obtain ⟨x, _, h⟩ := List.mem_flatMap.1 hu
  exact tx_one x u h
/-- The cells of a list of tables in memory. -/
theorem tx_of {P : Nat → Prop} {W : World} {b n c : Nat} {ts : List TB} (h : SlR tabK P W (.slice (some ⟨b, 0, none⟩) n c) ts) :
    ∃ X : List TX, X.map TX.t = ts ∧ (∀ x ∈ X, x.Ok P W) ∧ ∀ j u, (txCells X)[j]? = some u → W.cell? ((⟨b, 0, none⟩ : Addr).add j) = some u := by
  have hv : ∀ j, ∃ x : TX, ∀ (h : j < ts.length), x.t = ts[j] ∧ x.Ok P W ∧ ∀ i, i < 5 → W.cell? ⟨b, j * 5 + i, none⟩ = x.cells[i]? := by
    intro j
    by_cases hj : j < ts.length
    · obtain ⟨b', off, e, -, hb, ca, cc, ra, rc, pa, pc, c0, c1, c2, c3, c4, ht⟩ := tab_get h hj
      simp only [Option.some.injEq, Addr.mk.injEq, and_true] at e
      obtain ⟨rfl, rfl⟩ := e
      simp only [Nat.zero_add] at c0 c1 c2 c3 c4
      refine ⟨⟨ca, cc, ra, rc, pa, pc, ts[j]⟩, fun _ => ⟨rfl, ht, fun i hi => ?_⟩⟩
      match i, hi with
      | 0, _ => exact c0
      | 1, _ => exact c1
      | 2, _ => exact c2
      | 3, _ => exact c3
      | 4, _ => exact c4
    · exact ⟨⟨none, 0, none, 0, none, 0, ⟨⟨#[]⟩, [], 0, [], []⟩⟩, fun hh => absurd hh hj⟩
  obtain ⟨f, hf⟩ := Classical.axiomOfChoice hv
  refine ⟨(List.range ts.length).map f, ?_, fun x hx => ?_, fun j u hj => ?_⟩
  · apply List.ext_getElem (by simp)
    intro i h1 h2
    simp only [List.getElem_map, List.getElem_range]
    exact (hf i h2).1
  · obtain ⟨i, hi, rfl⟩ := List.mem_map.1 hx
    exact (hf i (List.mem_range.1 hi)).2.1
  · have hlt : j < ts.length * 5 := by
      rcases Nat.lt_or_ge j (ts.length * 5) with h | h
      · exact h
      · rw [List.getElem?_eq_none (by rw [length_txCells]; simpa using h)] at hj; cases hj
    have ha : (⟨b, 0, none⟩ : Addr).add j = ⟨b, j, none⟩ := by unfold Addr.add; split <;> simp_all
    rw [ha]
    have hd : j / 5 < ts.length := by omega
    have hjm : j / 5 * 5 + j % 5 = j := by omega
    have hm : j % 5 < 5 := by omega
    rw [← hjm, txCells_at _ (j / 5) (by simpa using hd) (j % 5) hm] at hj
    simp only [List.getElem_map, List.getElem_range] at hj
    rw [← hj, ← (hf _ hd).2.2 (j % 5) hm, hjm]
/-- An own row of tables reads as a list of tables. -/
theorem tx_own {P : Nat → Prop} {W : World} {base : Nat} {v : Value} {X : List TX} (ho : W.ownsRow base 40 5 v X.length (txCells X)) (hx : ∀ x ∈ X, x.Ok P W) (hp : ∀ b, base ≤ b → P b) (hl : X.length ≤ 1000) : SlR tabK P W v (X.map TX.t) := by
  obtain ⟨h1, h2⟩ := ho
  rcases h2 with ⟨rfl, hz⟩ | ⟨g, cap, cur, rfl, hg, hgc, hle, hmx, h5, h6⟩
  · have : X = [] := List.eq_nil_of_length_eq_zero hz
    subst this
    exact SlR.nil _ _ _
  · have hO : W.ownsRow base 40 5 (.slice (some ⟨g, 0, none⟩) X.length cap) X.length (txCells X) := ⟨h1, .inr ⟨g, cap, cur, rfl, hg, hgc, hle, hmx, h5, h6⟩⟩
    have hgl : g < W.heap.size := (Array.getElem?_eq_some_iff.1 hgc).1
    refine ⟨some ⟨g, 0, none⟩, cap, by simp, ⟨by simpa using hle, hmx, fun e => (by cases e), by simp; omega⟩, fun j hj => ?_⟩
    have hj' : j < X.length := by simpa using hj
    have hc : ∀ i, i < 5 → W.cell? ⟨g, 0 + j * 5 + i, none⟩ = (X[j].cells)[i]? := fun i hi => by
      rw [Nat.zero_add, hO.cellAt (j * 5 + i) (by omega), txCells_at X j hj' i hi]
    refine ⟨g, 0, rfl, hp g hg, hgl, ?_⟩
    rw [List.getElem_map]
    exact ⟨_, _, _, _, ⟨hc 0 (by omega), hc 1 (by omega), hc 2 (by omega), hc 3 (by omega), hc 4 (by omega)⟩, hx _ (List.getElem_mem hj')⟩
theorem TX.Ok.keep {P : Nat → Prop} {W W' : World} {x : TX} (h : x.Ok P W) (hs : W.heap.size ≤ W'.heap.size) (hk : ∀ k, P k → k < W.heap.size → W'.heap[k]? = W.heap[k]?) : x.Ok P W' := TbP.keep h hs hk
theorem TX.Ok.weak {P Q : Nat → Prop} {W : World} {x : TX} (h : x.Ok P W) (hq : ∀ k, P k → Q k) : x.Ok Q W := TbP.weak h hq
/-- An own row stays where its block stays. -/
theorem own_blkW {W W' : World} {base : Nat} {e : TypeId} {size : Nat} {v : Value} {n : Nat} {xs : List Value} (h : W.ownsRow base e size v n xs) (hb : ∀ k, base ≤ k → k < W.heap.size → W'.heap[k]? = W.heap[k]?) : W'.ownsRow base e size v n xs := by
  refine ⟨h.1, ?_⟩
  rcases h.2 with h0 | ⟨g, cap, cur, rfl, hg, hgg, hr⟩
  · exact .inl h0
  · exact .inr ⟨g, cap, cur, rfl, hg, (hb g hg (Array.getElem?_eq_some_iff.1 hgg).1).trans hgg, hr⟩
end Go.Proofs.Ytjcbmeannhafjaa

/- What Check answers for a case's plain schema with one table more. -/
namespace Go.Proofs.Ytjcbmeannhafjaa

open Go.RowKit Go.Deep

theorem tabsB_snoc (t : TB) : ∀ (A : List TB) (S : List ByteArray), tabsB S (A ++ [t]) = (tabsB S A && tabsB ((A.map TB.s).reverse ++ S) [t])
  | [], S => by simp [tabsB]
  | a :: A, S => by
    have e : tabsB S (a :: A) = ((nameB a.s && !memB a.s S) && (colsB [] a.cs && (decide (1 ≤ a.key) && (decide (a.key ≤ a.cs.length) && tabsB (a.s :: S) A)))) := by rw [tabsB]
    rw [e, List.cons_append, tabsB, tabsB_snoc t A]
    simp only [List.map_cons, List.reverse_cons, List.append_assoc, List.singleton_append, Bool.and_assoc]
theorem fndL_mem (name : ByteArray) : ∀ (L : List TB) (k : Nat), (0 ≤ fndL name L k) ↔ name ∈ L.map TB.s
  | [], k => by simp [fndL]
  | t :: L, k => by
    rw [fndL]
    by_cases h : t.s = name
    · rw [if_pos h]; simp [h]
    · rw [if_neg h, fndL_mem name L (k + 1), List.map_cons, List.mem_cons]
      exact ⟨.inr, fun hh => hh.resolve_left fun e => h e.symm⟩
theorem fstT_bare : ∀ (L : List TB), (∀ t ∈ L, t.ck = []) → fstT L = 0
  | [], _ => rfl
  | t :: L, h => by
    rw [fstT, h t List.mem_cons_self, fstC, if_pos rfl]
    exact fstT_bare L fun t ht => h t (List.mem_cons_of_mem _ ht)
theorem refsT_bare {s : SC} {L : List TB} (h : ∀ t ∈ L, t.rs = []) : L.all (refsT s) = true := by
  rw [List.all_eq_true]
  intro t ht
  unfold refsT
  rw [h t ht]; rfl
def plnL (n : Nat) (id : Int) : List TB := [tP, tT id [] [], tM [], tA id []].take n
theorem plnL_cases {P : List TB → Int → Prop} {n : Nat} {id : Int} (hn : n = 2 ∨ n = 3 ∨ n = 4) (hid : id = 4 ∨ id = 5) (h : ∀ n, (n = 2 ∨ n = 3 ∨ n = 4) → ∀ id, (id = 4 ∨ id = 5) → P (plnL n id) id) : P (plnL n id) id := h n hn id hid
theorem plnL_len {n : Nat} (id : Int) (hn : n ≤ 4) : (plnL n id).length = n := by unfold plnL; simp; omega
theorem plnL_bare {n : Nat} {id : Int} : ∀ t ∈ plnL n id, t.rs = [] ∧ t.ck = [] := by
  intro t ht
  have h := List.mem_of_mem_take ht
  simp only [List.mem_cons, List.not_mem_nil, or_false] at h
  rcases h with rfl | rfl | rfl | rfl <;> exact ⟨rfl, rfl⟩
theorem plnL_small {n : Nat} {id : Int} : (plnL n id).all smallT = true := by
  rw [List.all_eq_true]
  intro t ht
  have h := List.mem_of_mem_take ht
  simp only [List.mem_cons, List.not_mem_nil, or_false] at h
  rcases h with rfl | rfl | rfl | rfl <;> rfl
theorem plnL_sound {n : Nat} {id : Int} (hn : n = 2 ∨ n = 3 ∨ n = 4) (hid : id = 4 ∨ id = 5) : tabsB [] (plnL n id) = true := by
  rcases hn with rfl | rfl | rfl <;> rcases hid with rfl | rfl <;> decide +kernel
theorem plnL_other {n : Nat} {id : Int} (hn : n = 2 ∨ n = 3 ∨ n = 4) : memB ⟨#[111, 116, 104, 101, 114]⟩ ((plnL n id).map TB.s).reverse = false := by
  have h : (plnL n id).map TB.s = (plnL n 4).map TB.s := by rcases hn with rfl | rfl | rfl <;> rfl
  rw [h]
  rcases hn with rfl | rfl | rfl <;> decide +kernel
def nmX (name : ByteArray) : TB := ⟨name, [⟨⟨#[105, 100]⟩, 4⟩], 1, [], []⟩
def nmY (name : ByteArray) : TB := ⟨⟨#[111, 116, 104, 101, 114]⟩, [⟨name, 4⟩], 1, [], []⟩
theorem checkS_snoc {n : Nat} {id ver : Int} (hn : n = 2 ∨ n = 3 ∨ n = 4) (hid : id = 4 ∨ id = 5) (hv : 0 ≤ ver ∧ ver ≤ 2) (t : TB) (hr : t.rs = []) (hc : t.ck = []) (hl : t.cs.length ≤ 8) :
    checkS ⟨ver, plnL n id ++ [t]⟩ = if tabsB (((plnL n id).map TB.s).reverse ++ []) [t] = false then 70 else 0 := by
  have hsm : smallS ⟨ver, plnL n id ++ [t]⟩ = true := by
    unfold smallS
    rw [List.all_append, plnL_small, Bool.true_and, Bool.and_eq_true]
    refine ⟨decide_eq_true (by rw [List.length_append, plnL_len id (by omega)]; simp; omega), ?_⟩
    simp [smallT, hr, hc, hl]
  have hbr : ∀ u ∈ plnL n id ++ [t], u.rs = [] := fun u hu => by
    rcases List.mem_append.1 hu with h | h
    · exact (plnL_bare u h).1
    · rw [List.mem_singleton.1 h]; exact hr
  have hbc : ∀ u ∈ plnL n id ++ [t], u.ck = [] := fun u hu => by
    rcases List.mem_append.1 hu with h | h
    · exact (plnL_bare u h).2
    · rw [List.mem_singleton.1 h]; exact hc
  have hso : soundS ⟨ver, plnL n id ++ [t]⟩ = tabsB (((plnL n id).map TB.s).reverse ++ []) [t] := by
    unfold soundS
    rw [decide_eq_true (p := 0 ≤ ver) hv.1, decide_eq_true (p := ver ≤ 1000) (by omega), tabsB_snoc, plnL_sound hn hid, refsT_bare hbr]
    simp
  unfold checkS
  rw [hsm, hso, if_neg (by simp), fstT_bare _ hbc]
theorem check_x {n : Nat} {id ver : Int} (hn : n = 2 ∨ n = 3 ∨ n = 4) (hid : id = 4 ∨ id = 5) (hv : 0 ≤ ver ∧ ver ≤ 2) (name : ByteArray) :
    checkS ⟨ver, plnL n id ++ [nmX name]⟩ = if nameB name = false ∨ 0 ≤ fndL name (plnL n id) 0 then 70 else 0 := by
  rw [checkS_snoc hn hid hv (nmX name) rfl rfl (by simp [nmX])]
  have hcl : colsB [] [⟨⟨#[105, 100]⟩, 4⟩] = true := by decide +kernel
  have e : tabsB (((plnL n id).map TB.s).reverse ++ []) [nmX name] = (nameB name && !memB name ((plnL n id).map TB.s).reverse) := by
    rw [List.append_nil, tabsB, tabsB]
    show ((nameB name && !memB name _) && (colsB [] [⟨⟨#[105, 100]⟩, 4⟩] && _)) = _
    rw [hcl]; simp [nmX]
  rw [e]
  suffices hcg : ((nameB name && !memB name ((plnL n id).map TB.s).reverse) = false) = (nameB name = false ∨ 0 ≤ fndL name (plnL n id) 0) by simp only [hcg]
  refine propext ?_
  rw [fndL_mem]
  cases h1 : nameB name with
  | false => simp
  | true =>
    rw [Bool.true_and]
    cases h2 : memB name ((plnL n id).map TB.s).reverse with
    | true => have := memB_iff.1 h2; rw [List.mem_reverse] at this; simp [this]
    | false =>
      have : ¬ name ∈ (plnL n id).map TB.s := fun h => by
        have := memB_iff.2 (List.mem_reverse.2 h)
        rw [this] at h2; cases h2
      simp [this]
theorem check_y {n : Nat} {id ver : Int} (hn : n = 2 ∨ n = 3 ∨ n = 4) (hid : id = 4 ∨ id = 5) (hv : 0 ≤ ver ∧ ver ≤ 2) (name : ByteArray) :
    checkS ⟨ver, plnL n id ++ [nmY name]⟩ = if nameB name = false then 70 else 0 := by
  rw [checkS_snoc hn hid hv (nmY name) rfl rfl (by simp [nmY])]
  have hnm : nameB ⟨#[111, 116, 104, 101, 114]⟩ = true := by decide +kernel
  have e : tabsB (((plnL n id).map TB.s).reverse ++ []) [nmY name] = nameB name := by
    rw [List.append_nil, tabsB, tabsB]
    show ((nameB ⟨#[111, 116, 104, 101, 114]⟩ && !memB ⟨#[111, 116, 104, 101, 114]⟩ _) && (colsB [] [⟨name, 4⟩] && _)) = _
    rw [hnm, plnL_other hn]
    simp [nmY, colsB, memB, okK]
  rw [e]
end Go.Proofs.Ytjcbmeannhafjaa
