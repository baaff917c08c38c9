/- Law PredicateNegates. -/
import Derived.Test.YtbddmapbppnfoaaPdTree
import Derived.Test.YtbddmapbppnfoaaPdRow
import Derived.Test.YtbddmapbppnfoaaPdNew
import Derived.Test.YtbddmapbppnfoaaPdHolds
import Derived.Deep.RegionHeld3
import Derived.Deep.CutRange
import Derived.Deep.CutBlock
import Derived.Deep.DeepCutAuto
namespace Go.Proofs.Ytbddmapbppnfoaa
open Go.RowKit Go.Deep

theorem holds_notL (R Q : List V) (p : PT) : holdsP R Q (.mk 6 0 zO zO [p]) = !holdsP R Q p := by rw [holds_eq]; rfl
theorem holds_andL (R Q : List V) (p q : PT) : holdsP R Q (.mk 4 0 zO zO [p, q]) = (holdsP R Q p && holdsP R Q q) := by
  rw [holds_eq]; show (holdsP R Q p && (holdsP R Q q && true)) = _; simp
theorem holds_orL (R Q : List V) (p q : PT) : holdsP R Q (.mk 5 0 zO zO [p, q]) = (holdsP R Q p || holdsP R Q q) := by
  rw [holds_eq]; show (holdsP R Q p || (holdsP R Q q || false)) = _; simp
theorem holds_all (R Q : List V) : holdsP R Q (.mk 4 0 zO zO []) = true := by rw [holds_eq]; rfl
theorem holds_any0 (R Q : List V) : holdsP R Q (.mk 5 0 zO zO []) = false := by rw [holds_eq]; rfl
theorem pdS_two {P : Nat → Prop} {W : World} {l : List PT} {b : Nat} (hl : l.length ≤ 2) (hP : P b) (hb : b < W.heap.size) (h : PdL P W l b 0) : PdS P W l (some ⟨b, 0, none⟩) 2 :=
  ⟨⟨hl, by unfold maxLen; exact of_decide_eq_true rfl, fun e => (by cases e), by omega⟩, .inr ⟨b, 0, rfl, hP, hb, h⟩⟩
theorem pdL_head {P : Nat → Prop} {W : World} {p q : PT} {b o : Nat} (h : PdL P W [p, q] b o) : PdL P W [p] b o := by
  unfold PdL at h ⊢
  refine ⟨h.1, ?_⟩
  unfold PdL
  trivial

set_option linter.unusedSimpArgs false in
set_option maxRecDepth 100000 in
set_option maxHeartbeats 4000000 in
theorem pnegates_walk (cv : Value) (cn : Nat) (w : World) (hcv : BytesAt w cv cn) : Calls Try.prog 5 #[cv] w fun e w' => e = .returned (.bool true) ∧ Below w.heap.size w w' := by
  have HN := Lib.hid (cNew_160 cv cn w hcv)
  obtain ⟨sa, sc, rfl, _⟩ := hcv
  have HB : Hid (∀ W, Calls Try.prog 14 #[] W fun e w' => e = .returned (.bool true) ∧ Below W.heap.size W w') := begun5_any
  go_enter Try.func5, Try.ntmps5
  go_wp2_with fail
  refine HN.out.mono ?_
  rintro e w1 ⟨bc, rfl, hb1, hbc, hok⟩
  have hlt : bc < w1.heap.size := hok.lt.1
  have HK := Lib.hid (lKinds_any bc w1.heap.size 4 (by omega) w1 hok)
  have B1 := Lib.hid hb1
  have hs1 := hb1.size
  clear hb1 hok HN
  go_wp2_with fail
  refine HK.out.mono ?_
  rintro e w2 ⟨kv, K, rfl, hkl, hkk, hki, hm2, ho2⟩
  obtain ⟨ka, kc, rfl⟩ := hki.shape
  obtain ⟨kn, hkn⟩ : ∃ kn, K.length = kn := ⟨_, rfl⟩
  have HKI : Hid (IntsG w1.heap.size w2 (.slice ka K.length kc) K) := hki
  have HP := Lib.hid (cPredicate_any bc w1.heap.size w1.heap.size K [] (.slice ka K.length kc) (.slice none 0 0) 2 w2 ho2 (by omega) hkk rfl (by omega) (by simp) hki (IntsG.nil _ _) hlt)
  rw [hkn] at HP HKI ⊢
  have M2 := Lib.hid hm2
  have hs2 := hm2.size
  have HKK : Hid (okKs K = true ∧ K.length ≤ 4) := ⟨hkk, hkl⟩
  have HKN := Lib.hid hkn
  clear hki ho2 hm2 HK hkk hkl hkn
  go_wp2_with fail
  refine HP.out.mono ?_
  rintro e w3 ⟨p, pa, pc, rfl, hps, -, -, hm3, ho3⟩
  have M3 : Hid (Mv bc w2 w3) := hm3
  have HPS := Lib.hid hps
  have HQ := Lib.hid (cPredicate_any bc w1.heap.size w1.heap.size K [] (.slice ka kn kc) (.slice none 0 0) 2 w3 ho3 (by omega) HKK.out.1 rfl (by have := HKK.out.2; omega) (by simp) (HKI.out.mv hm3 hlt) (IntsG.nil _ _) hlt)
  have hs3 := hm3.size
  clear hps hm3 ho3 HP
  go_wp2_with fail
  refine HQ.out.mono ?_
  rintro e w4 ⟨q, qa, qc, rfl, hqs, -, -, hm4, ho4⟩
  have M4 : Hid (Mv bc w2 w4) := M3.out.trans hm4
  have HPS4 : Hid (PdS (fun b => w2.heap.size < b) w4 p.args pa pc) := HPS.out.keep hm4.size (fun b hb hl => hm4.block b hl (by omega))
  have HQS4 : Hid (PdS (fun b => w2.heap.size < b) w4 q.args qa qc) := hqs.weak (fun b hb => by omega)
  have O4 := Lib.hid ho4
  have hs4 := hm4.size
  simp only [pdV]
  obtain ⟨pn, hpn⟩ : ∃ pn, p.args.length = pn := ⟨_, rfl⟩
  obtain ⟨qn, hqn⟩ : ∃ qn, q.args.length = qn := ⟨_, rfl⟩
  have HPN := Lib.hid hpn
  have HQN := Lib.hid hqn
  rw [hpn, hqn]
  clear hqs hm4 ho4 HQ HPS M3 hpn hqn
  go_wp2_with fail
  obtain ⟨wb, hwb⟩ : ∃ wb, (w4.alloc (.cells #[.int .i64 p.op, .int .i64 p.cmp, .int .i64 p.l.k, .int .i64 p.l.i, .int .i64 p.l.v.k, .int .i64 p.l.v.n, .string p.l.v.s, .int .i64 p.r.k, .int .i64 p.r.i, .int .i64 p.r.v.k, .int .i64 p.r.v.n, .string p.r.v.s, .slice pa pn pc] 29)).alloc (.cells #[.int .i64 q.op, .int .i64 q.cmp, .int .i64 q.l.k, .int .i64 q.l.i, .int .i64 q.l.v.k, .int .i64 q.l.v.n, .string q.l.v.s, .int .i64 q.r.k, .int .i64 q.r.i, .int .i64 q.r.v.k, .int .i64 q.r.v.n, .string q.r.v.s, .slice qa qn qc] 29) = wb := ⟨_, rfl⟩
  have MB : Hid (Mv bc w2 wb) := by rw [← hwb]; exact (M4.out.alloc _).alloc _
  have OB : CaseOk bc w1.heap.size wb := by rw [← hwb]; exact (O4.out.alloc _).alloc _
  have HR := Lib.hid (cRow_any bc w1.heap.size w1.heap.size K (.slice ka kn kc) wb OB HKK.out.1 (by have := HKK.out.2; omega) (HKI.out.mv MB.out hlt) hlt)
  have hcs : wb.heap.size = w4.heap.size + 1 + 1 := by rw [← hwb]; simp
  have BW : Hid (Below w4.heap.size w4 wb) := by rw [← hwb]; exact ((Below.refl _ _).alloc (Nat.le_refl _) _).alloc (by simp) _
  have a0 : wb.cell? ⟨w4.heap.size, 0, none⟩ = some (.int .i64 p.op) := by subst hwb; go_simp
  have a1 : wb.cell? ⟨w4.heap.size, 1, none⟩ = some (.int .i64 p.cmp) := by subst hwb; go_simp
  have a2 : wb.cell? ⟨w4.heap.size, 2, none⟩ = some (.int .i64 p.l.k) := by subst hwb; go_simp
  have a3 : wb.cell? ⟨w4.heap.size, 3, none⟩ = some (.int .i64 p.l.i) := by subst hwb; go_simp
  have a4 : wb.cell? ⟨w4.heap.size, 4, none⟩ = some (.int .i64 p.l.v.k) := by subst hwb; go_simp
  have a5 : wb.cell? ⟨w4.heap.size, 5, none⟩ = some (.int .i64 p.l.v.n) := by subst hwb; go_simp
  have a6 : wb.cell? ⟨w4.heap.size, 6, none⟩ = some (.string p.l.v.s) := by subst hwb; go_simp
  have a7 : wb.cell? ⟨w4.heap.size, 7, none⟩ = some (.int .i64 p.r.k) := by subst hwb; go_simp
  have a8 : wb.cell? ⟨w4.heap.size, 8, none⟩ = some (.int .i64 p.r.i) := by subst hwb; go_simp
  have a9 : wb.cell? ⟨w4.heap.size, 9, none⟩ = some (.int .i64 p.r.v.k) := by subst hwb; go_simp
  have a10 : wb.cell? ⟨w4.heap.size, 10, none⟩ = some (.int .i64 p.r.v.n) := by subst hwb; go_simp
  have a11 : wb.cell? ⟨w4.heap.size, 11, none⟩ = some (.string p.r.v.s) := by subst hwb; go_simp
  have a12 : wb.cell? ⟨w4.heap.size, 12, none⟩ = some (.slice pa pn pc) := by subst hwb; go_simp
  have b0 : wb.cell? ⟨(w4.heap.size + 1), 0, none⟩ = some (.int .i64 q.op) := by subst hwb; go_simp
  have b1 : wb.cell? ⟨(w4.heap.size + 1), 1, none⟩ = some (.int .i64 q.cmp) := by subst hwb; go_simp
  have b2 : wb.cell? ⟨(w4.heap.size + 1), 2, none⟩ = some (.int .i64 q.l.k) := by subst hwb; go_simp
  have b3 : wb.cell? ⟨(w4.heap.size + 1), 3, none⟩ = some (.int .i64 q.l.i) := by subst hwb; go_simp
  have b4 : wb.cell? ⟨(w4.heap.size + 1), 4, none⟩ = some (.int .i64 q.l.v.k) := by subst hwb; go_simp
  have b5 : wb.cell? ⟨(w4.heap.size + 1), 5, none⟩ = some (.int .i64 q.l.v.n) := by subst hwb; go_simp
  have b6 : wb.cell? ⟨(w4.heap.size + 1), 6, none⟩ = some (.string q.l.v.s) := by subst hwb; go_simp
  have b7 : wb.cell? ⟨(w4.heap.size + 1), 7, none⟩ = some (.int .i64 q.r.k) := by subst hwb; go_simp
  have b8 : wb.cell? ⟨(w4.heap.size + 1), 8, none⟩ = some (.int .i64 q.r.i) := by subst hwb; go_simp
  have b9 : wb.cell? ⟨(w4.heap.size + 1), 9, none⟩ = some (.int .i64 q.r.v.k) := by subst hwb; go_simp
  have b10 : wb.cell? ⟨(w4.heap.size + 1), 10, none⟩ = some (.int .i64 q.r.v.n) := by subst hwb; go_simp
  have b11 : wb.cell? ⟨(w4.heap.size + 1), 11, none⟩ = some (.string q.r.v.s) := by subst hwb; go_simp
  have b12 : wb.cell? ⟨(w4.heap.size + 1), 12, none⟩ = some (.slice qa qn qc) := by subst hwb; go_simp
  have HCB : Hid (∀ W, Mv bc wb W → W.cell? ⟨w4.heap.size, 0, none⟩ = some (.int .i64 p.op) ∧ W.cell? ⟨w4.heap.size, 1, none⟩ = some (.int .i64 p.cmp) ∧ W.cell? ⟨w4.heap.size, 2, none⟩ = some (.int .i64 p.l.k) ∧ W.cell? ⟨w4.heap.size, 3, none⟩ = some (.int .i64 p.l.i) ∧ W.cell? ⟨w4.heap.size, 4, none⟩ = some (.int .i64 p.l.v.k) ∧ W.cell? ⟨w4.heap.size, 5, none⟩ = some (.int .i64 p.l.v.n) ∧ W.cell? ⟨w4.heap.size, 6, none⟩ = some (.string p.l.v.s) ∧ W.cell? ⟨w4.heap.size, 7, none⟩ = some (.int .i64 p.r.k) ∧ W.cell? ⟨w4.heap.size, 8, none⟩ = some (.int .i64 p.r.i) ∧ W.cell? ⟨w4.heap.size, 9, none⟩ = some (.int .i64 p.r.v.k) ∧ W.cell? ⟨w4.heap.size, 10, none⟩ = some (.int .i64 p.r.v.n) ∧ W.cell? ⟨w4.heap.size, 11, none⟩ = some (.string p.r.v.s) ∧ W.cell? ⟨w4.heap.size, 12, none⟩ = some (.slice pa pn pc) ∧ W.cell? ⟨(w4.heap.size + 1), 0, none⟩ = some (.int .i64 q.op) ∧ W.cell? ⟨(w4.heap.size + 1), 1, none⟩ = some (.int .i64 q.cmp) ∧ W.cell? ⟨(w4.heap.size + 1), 2, none⟩ = some (.int .i64 q.l.k) ∧ W.cell? ⟨(w4.heap.size + 1), 3, none⟩ = some (.int .i64 q.l.i) ∧ W.cell? ⟨(w4.heap.size + 1), 4, none⟩ = some (.int .i64 q.l.v.k) ∧ W.cell? ⟨(w4.heap.size + 1), 5, none⟩ = some (.int .i64 q.l.v.n) ∧ W.cell? ⟨(w4.heap.size + 1), 6, none⟩ = some (.string q.l.v.s) ∧ W.cell? ⟨(w4.heap.size + 1), 7, none⟩ = some (.int .i64 q.r.k) ∧ W.cell? ⟨(w4.heap.size + 1), 8, none⟩ = some (.int .i64 q.r.i) ∧ W.cell? ⟨(w4.heap.size + 1), 9, none⟩ = some (.int .i64 q.r.v.k) ∧ W.cell? ⟨(w4.heap.size + 1), 10, none⟩ = some (.int .i64 q.r.v.n) ∧ W.cell? ⟨(w4.heap.size + 1), 11, none⟩ = some (.string q.r.v.s) ∧ W.cell? ⟨(w4.heap.size + 1), 12, none⟩ = some (.slice qa qn qc)) := fun W hb => ⟨(hb.cell (p := ⟨w4.heap.size, 0, none⟩) (show w4.heap.size < _ by omega) (show w4.heap.size ≠ bc by omega)).trans a0, (hb.cell (p := ⟨w4.heap.size, 1, none⟩) (show w4.heap.size < _ by omega) (show w4.heap.size ≠ bc by omega)).trans a1, (hb.cell (p := ⟨w4.heap.size, 2, none⟩) (show w4.heap.size < _ by omega) (show w4.heap.size ≠ bc by omega)).trans a2, (hb.cell (p := ⟨w4.heap.size, 3, none⟩) (show w4.heap.size < _ by omega) (show w4.heap.size ≠ bc by omega)).trans a3, (hb.cell (p := ⟨w4.heap.size, 4, none⟩) (show w4.heap.size < _ by omega) (show w4.heap.size ≠ bc by omega)).trans a4, (hb.cell (p := ⟨w4.heap.size, 5, none⟩) (show w4.heap.size < _ by omega) (show w4.heap.size ≠ bc by omega)).trans a5, (hb.cell (p := ⟨w4.heap.size, 6, none⟩) (show w4.heap.size < _ by omega) (show w4.heap.size ≠ bc by omega)).trans a6, (hb.cell (p := ⟨w4.heap.size, 7, none⟩) (show w4.heap.size < _ by omega) (show w4.heap.size ≠ bc by omega)).trans a7, (hb.cell (p := ⟨w4.heap.size, 8, none⟩) (show w4.heap.size < _ by omega) (show w4.heap.size ≠ bc by omega)).trans a8, (hb.cell (p := ⟨w4.heap.size, 9, none⟩) (show w4.heap.size < _ by omega) (show w4.heap.size ≠ bc by omega)).trans a9, (hb.cell (p := ⟨w4.heap.size, 10, none⟩) (show w4.heap.size < _ by omega) (show w4.heap.size ≠ bc by omega)).trans a10, (hb.cell (p := ⟨w4.heap.size, 11, none⟩) (show w4.heap.size < _ by omega) (show w4.heap.size ≠ bc by omega)).trans a11, (hb.cell (p := ⟨w4.heap.size, 12, none⟩) (show w4.heap.size < _ by omega) (show w4.heap.size ≠ bc by omega)).trans a12, (hb.cell (p := ⟨(w4.heap.size + 1), 0, none⟩) (show (w4.heap.size + 1) < _ by omega) (show (w4.heap.size + 1) ≠ bc by omega)).trans b0, (hb.cell (p := ⟨(w4.heap.size + 1), 1, none⟩) (show (w4.heap.size + 1) < _ by omega) (show (w4.heap.size + 1) ≠ bc by omega)).trans b1, (hb.cell (p := ⟨(w4.heap.size + 1), 2, none⟩) (show (w4.heap.size + 1) < _ by omega) (show (w4.heap.size + 1) ≠ bc by omega)).trans b2, (hb.cell (p := ⟨(w4.heap.size + 1), 3, none⟩) (show (w4.heap.size + 1) < _ by omega) (show (w4.heap.size + 1) ≠ bc by omega)).trans b3, (hb.cell (p := ⟨(w4.heap.size + 1), 4, none⟩) (show (w4.heap.size + 1) < _ by omega) (show (w4.heap.size + 1) ≠ bc by omega)).trans b4, (hb.cell (p := ⟨(w4.heap.size + 1), 5, none⟩) (show (w4.heap.size + 1) < _ by omega) (show (w4.heap.size + 1) ≠ bc by omega)).trans b5, (hb.cell (p := ⟨(w4.heap.size + 1), 6, none⟩) (show (w4.heap.size + 1) < _ by omega) (show (w4.heap.size + 1) ≠ bc by omega)).trans b6, (hb.cell (p := ⟨(w4.heap.size + 1), 7, none⟩) (show (w4.heap.size + 1) < _ by omega) (show (w4.heap.size + 1) ≠ bc by omega)).trans b7, (hb.cell (p := ⟨(w4.heap.size + 1), 8, none⟩) (show (w4.heap.size + 1) < _ by omega) (show (w4.heap.size + 1) ≠ bc by omega)).trans b8, (hb.cell (p := ⟨(w4.heap.size + 1), 9, none⟩) (show (w4.heap.size + 1) < _ by omega) (show (w4.heap.size + 1) ≠ bc by omega)).trans b9, (hb.cell (p := ⟨(w4.heap.size + 1), 10, none⟩) (show (w4.heap.size + 1) < _ by omega) (show (w4.heap.size + 1) ≠ bc by omega)).trans b10, (hb.cell (p := ⟨(w4.heap.size + 1), 11, none⟩) (show (w4.heap.size + 1) < _ by omega) (show (w4.heap.size + 1) ≠ bc by omega)).trans b11, (hb.cell (p := ⟨(w4.heap.size + 1), 12, none⟩) (show (w4.heap.size + 1) < _ by omega) (show (w4.heap.size + 1) ≠ bc by omega)).trans b12⟩
  rw [hwb]
  clear hwb OB a0 a1 a2 a3 a4 a5 a6 a7 a8 a9 a10 a11 a12 b0 b1 b2 b3 b4 b5 b6 b7 b8 b9 b10 b11 b12
  go_wp2_with fail
  refine HR.out.mono ?_
  rintro e w6 ⟨rv, R, rfl, -, hrt, hm6, ho6⟩
  have hrow : RowAt w6 rv R := hrt.rowB.at (Nat.le_refl _)
  obtain ⟨ra, rc, rfl, -⟩ := hrt
  have M6 : Hid (Mv bc w2 w6) := MB.out.trans hm6
  have hs6 := hm6.size
  have HROW := Lib.hid hrow
  have HP6 : Hid (PdS (fun b => w2.heap.size < b) w6 p.args pa pc) := (HPS4.out.below BW.out).keep hm6.size (fun b hb hl => hm6.block b hl (by omega))
  have HQ6 : Hid (PdS (fun b => w2.heap.size < b) w6 q.args qa qc) := (HQS4.out.below BW.out).keep hm6.size (fun b hb hl => hm6.block b hl (by omega))
  obtain ⟨a0, a1, a2, a3, a4, a5, a6, a7, a8, a9, a10, a11, a12, b0, b1, b2, b3, b4, b5, b6, b7, b8, b9, b10, b11, b12⟩ := HCB.out w6 hm6
  have za : w4.heap.size < w6.heap.size := by omega
  have zb : (w4.heap.size + 1) < w6.heap.size := by omega
  obtain ⟨rn, hrn⟩ : ∃ rn, R.length = rn := ⟨_, rfl⟩
  rw [hrn] at HROW ⊢
  obtain ⟨x, hx⟩ : ∃ x, holdsP R [] p = x := ⟨_, rfl⟩
  obtain ⟨y, hy⟩ : ∃ y, holdsP R [] q = y := ⟨_, rfl⟩
  have H0 : Hid (∀ (t : PT) (v : Value) (W : World), Below w6.heap.size w6 W → Pd W v t → Calls Try.prog 19 #[v, .slice ra rn rc, .slice none 0 0] W fun e w' => e = .returned (.bool (holdsP R [] t)) ∧ Below W.heap.size W w') := fun t v W hb hv => pHolds_any R [] t.depth t (Nat.le_refl _) v _ _ W hv (HROW.out.blw hb) (rowAt_nil _)
  have HHP : Hid (∀ W, Below w6.heap.size w6 W → Calls Try.prog 19 #[(.agg #[.int .i64 p.op, .int .i64 p.cmp, .int .i64 p.l.k, .int .i64 p.l.i, .int .i64 p.l.v.k, .int .i64 p.l.v.n, .string p.l.v.s, .int .i64 p.r.k, .int .i64 p.r.i, .int .i64 p.r.v.k, .int .i64 p.r.v.n, .string p.r.v.s, .slice pa pn pc]), .slice ra rn rc, .slice none 0 0] W fun e w' => e = .returned (.bool x) ∧ Below W.heap.size W w') := fun W hb => by rw [← hx]; exact H0.out p _ W hb ⟨pa, pc, by rw [← HPN.out]; rfl, (HP6.out.weak (fun _ _ => trivial)).below hb⟩
  have HHQ : Hid (∀ W, Below w6.heap.size w6 W → Calls Try.prog 19 #[(.agg #[.int .i64 q.op, .int .i64 q.cmp, .int .i64 q.l.k, .int .i64 q.l.i, .int .i64 q.l.v.k, .int .i64 q.l.v.n, .string q.l.v.s, .int .i64 q.r.k, .int .i64 q.r.i, .int .i64 q.r.v.k, .int .i64 q.r.v.n, .string q.r.v.s, .slice qa qn qc]), .slice ra rn rc, .slice none 0 0] W fun e w' => e = .returned (.bool y) ∧ Below W.heap.size W w') := fun W hb => by rw [← hy]; exact H0.out q _ W hb ⟨qa, qc, by rw [← HQN.out]; rfl, (HQ6.out.weak (fun _ _ => trivial)).below hb⟩
  clear hm6 ho6 hrow HR MB BW HCB HPS4 HQS4 M4 O4 HKI HKK HKN
  go_upto_region 5 with fail
  have HK : Hid (∀ W, Below w6.heap.size w6 W → W.cell? ⟨w4.heap.size, 0, none⟩ = some (.int .i64 p.op) ∧ W.cell? ⟨w4.heap.size, 1, none⟩ = some (.int .i64 p.cmp) ∧ W.cell? ⟨w4.heap.size, 2, none⟩ = some (.int .i64 p.l.k) ∧ W.cell? ⟨w4.heap.size, 3, none⟩ = some (.int .i64 p.l.i) ∧ W.cell? ⟨w4.heap.size, 4, none⟩ = some (.int .i64 p.l.v.k) ∧ W.cell? ⟨w4.heap.size, 5, none⟩ = some (.int .i64 p.l.v.n) ∧ W.cell? ⟨w4.heap.size, 6, none⟩ = some (.string p.l.v.s) ∧ W.cell? ⟨w4.heap.size, 7, none⟩ = some (.int .i64 p.r.k) ∧ W.cell? ⟨w4.heap.size, 8, none⟩ = some (.int .i64 p.r.i) ∧ W.cell? ⟨w4.heap.size, 9, none⟩ = some (.int .i64 p.r.v.k) ∧ W.cell? ⟨w4.heap.size, 10, none⟩ = some (.int .i64 p.r.v.n) ∧ W.cell? ⟨w4.heap.size, 11, none⟩ = some (.string p.r.v.s) ∧ W.cell? ⟨w4.heap.size, 12, none⟩ = some (.slice pa pn pc) ∧ W.cell? ⟨(w4.heap.size + 1), 0, none⟩ = some (.int .i64 q.op) ∧ W.cell? ⟨(w4.heap.size + 1), 1, none⟩ = some (.int .i64 q.cmp) ∧ W.cell? ⟨(w4.heap.size + 1), 2, none⟩ = some (.int .i64 q.l.k) ∧ W.cell? ⟨(w4.heap.size + 1), 3, none⟩ = some (.int .i64 q.l.i) ∧ W.cell? ⟨(w4.heap.size + 1), 4, none⟩ = some (.int .i64 q.l.v.k) ∧ W.cell? ⟨(w4.heap.size + 1), 5, none⟩ = some (.int .i64 q.l.v.n) ∧ W.cell? ⟨(w4.heap.size + 1), 6, none⟩ = some (.string q.l.v.s) ∧ W.cell? ⟨(w4.heap.size + 1), 7, none⟩ = some (.int .i64 q.r.k) ∧ W.cell? ⟨(w4.heap.size + 1), 8, none⟩ = some (.int .i64 q.r.i) ∧ W.cell? ⟨(w4.heap.size + 1), 9, none⟩ = some (.int .i64 q.r.v.k) ∧ W.cell? ⟨(w4.heap.size + 1), 10, none⟩ = some (.int .i64 q.r.v.n) ∧ W.cell? ⟨(w4.heap.size + 1), 11, none⟩ = some (.string q.r.v.s) ∧ W.cell? ⟨(w4.heap.size + 1), 12, none⟩ = some (.slice qa qn qc)) := fun W hb => ⟨(hb.cell (p := ⟨w4.heap.size, 0, none⟩) za).trans a0, (hb.cell (p := ⟨w4.heap.size, 1, none⟩) za).trans a1, (hb.cell (p := ⟨w4.heap.size, 2, none⟩) za).trans a2, (hb.cell (p := ⟨w4.heap.size, 3, none⟩) za).trans a3, (hb.cell (p := ⟨w4.heap.size, 4, none⟩) za).trans a4, (hb.cell (p := ⟨w4.heap.size, 5, none⟩) za).trans a5, (hb.cell (p := ⟨w4.heap.size, 6, none⟩) za).trans a6, (hb.cell (p := ⟨w4.heap.size, 7, none⟩) za).trans a7, (hb.cell (p := ⟨w4.heap.size, 8, none⟩) za).trans a8, (hb.cell (p := ⟨w4.heap.size, 9, none⟩) za).trans a9, (hb.cell (p := ⟨w4.heap.size, 10, none⟩) za).trans a10, (hb.cell (p := ⟨w4.heap.size, 11, none⟩) za).trans a11, (hb.cell (p := ⟨w4.heap.size, 12, none⟩) za).trans a12, (hb.cell (p := ⟨(w4.heap.size + 1), 0, none⟩) zb).trans b0, (hb.cell (p := ⟨(w4.heap.size + 1), 1, none⟩) zb).trans b1, (hb.cell (p := ⟨(w4.heap.size + 1), 2, none⟩) zb).trans b2, (hb.cell (p := ⟨(w4.heap.size + 1), 3, none⟩) zb).trans b3, (hb.cell (p := ⟨(w4.heap.size + 1), 4, none⟩) zb).trans b4, (hb.cell (p := ⟨(w4.heap.size + 1), 5, none⟩) zb).trans b5, (hb.cell (p := ⟨(w4.heap.size + 1), 6, none⟩) zb).trans b6, (hb.cell (p := ⟨(w4.heap.size + 1), 7, none⟩) zb).trans b7, (hb.cell (p := ⟨(w4.heap.size + 1), 8, none⟩) zb).trans b8, (hb.cell (p := ⟨(w4.heap.size + 1), 9, none⟩) zb).trans b9, (hb.cell (p := ⟨(w4.heap.size + 1), 10, none⟩) zb).trans b10, (hb.cell (p := ⟨(w4.heap.size + 1), 11, none⟩) zb).trans b11, (hb.cell (p := ⟨(w4.heap.size + 1), 12, none⟩) zb).trans b12⟩
  go_cut [8, 9] (fun s8 s9 wx => s8 = .bool x ∧ s9 = .bool y ∧ Hid (Below w6.heap.size w6 wx))
  case first =>
    go_region_held3 (fun W => W.cell? ⟨w4.heap.size, 0, none⟩ = some (.int .i64 p.op) ∧ W.cell? ⟨w4.heap.size, 1, none⟩ = some (.int .i64 p.cmp) ∧ W.cell? ⟨w4.heap.size, 2, none⟩ = some (.int .i64 p.l.k) ∧ W.cell? ⟨w4.heap.size, 3, none⟩ = some (.int .i64 p.l.i) ∧ W.cell? ⟨w4.heap.size, 4, none⟩ = some (.int .i64 p.l.v.k) ∧ W.cell? ⟨w4.heap.size, 5, none⟩ = some (.int .i64 p.l.v.n) ∧ W.cell? ⟨w4.heap.size, 6, none⟩ = some (.string p.l.v.s) ∧ W.cell? ⟨w4.heap.size, 7, none⟩ = some (.int .i64 p.r.k) ∧ W.cell? ⟨w4.heap.size, 8, none⟩ = some (.int .i64 p.r.i) ∧ W.cell? ⟨w4.heap.size, 9, none⟩ = some (.int .i64 p.r.v.k) ∧ W.cell? ⟨w4.heap.size, 10, none⟩ = some (.int .i64 p.r.v.n) ∧ W.cell? ⟨w4.heap.size, 11, none⟩ = some (.string p.r.v.s) ∧ W.cell? ⟨w4.heap.size, 12, none⟩ = some (.slice pa pn pc) ∧ W.cell? ⟨(w4.heap.size + 1), 0, none⟩ = some (.int .i64 q.op) ∧ W.cell? ⟨(w4.heap.size + 1), 1, none⟩ = some (.int .i64 q.cmp) ∧ W.cell? ⟨(w4.heap.size + 1), 2, none⟩ = some (.int .i64 q.l.k) ∧ W.cell? ⟨(w4.heap.size + 1), 3, none⟩ = some (.int .i64 q.l.i) ∧ W.cell? ⟨(w4.heap.size + 1), 4, none⟩ = some (.int .i64 q.l.v.k) ∧ W.cell? ⟨(w4.heap.size + 1), 5, none⟩ = some (.int .i64 q.l.v.n) ∧ W.cell? ⟨(w4.heap.size + 1), 6, none⟩ = some (.string q.l.v.s) ∧ W.cell? ⟨(w4.heap.size + 1), 7, none⟩ = some (.int .i64 q.r.k) ∧ W.cell? ⟨(w4.heap.size + 1), 8, none⟩ = some (.int .i64 q.r.i) ∧ W.cell? ⟨(w4.heap.size + 1), 9, none⟩ = some (.int .i64 q.r.v.k) ∧ W.cell? ⟨(w4.heap.size + 1), 10, none⟩ = some (.int .i64 q.r.v.n) ∧ W.cell? ⟨(w4.heap.size + 1), 11, none⟩ = some (.string q.r.v.s) ∧ W.cell? ⟨(w4.heap.size + 1), 12, none⟩ = some (.slice qa qn qc))
      (first | exact ⟨a0c, a1c, a2c, a3c, a4c, a5c, a6c, a7c, a8c, a9c, a10c, a11c, a12c, b0c, b1c, b2c, b3c, b4c, b5c, b6c, b7c, b8c, b9c, b10c, b11c, b12c⟩ | exact ⟨a0d, a1d, a2d, a3d, a4d, a5d, a6d, a7d, a8d, a9d, a10d, a11d, a12d, b0d, b1d, b2d, b3d, b4d, b5d, b6d, b7d, b8d, b9d, b10d, b11d, b12d⟩ | exact ⟨a0, a1, a2, a3, a4, a5, a6, a7, a8, a9, a10, a11, a12, b0, b1, b2, b3, b4, b5, b6, b7, b8, b9, b10, b11, b12⟩)
      (first | (go_at_call 19; (with_reducible refine (HHQ.out _ (by (repeat (first | exact Below.refl _ _ | assumption | refine Below.drew ?_ | refine Below.setCell ?_ (by simp; try omega) _ | refine Below.alloc ?_ (by simp; try omega) _)))).mono ?_); rintro e wzd ⟨rfl, hg⟩; have hbd : Below w6.heap.size w6 wzd := Below.trans (by (repeat (first | exact Below.refl _ _ | assumption | refine Below.drew ?_ | refine Below.setCell ?_ (by simp; try omega) _ | refine Below.alloc ?_ (by simp; try omega) _))) (hg.mono (by first | (simp; done) | ((try simp); exact Below.size (by assumption)))); obtain ⟨a0d, a1d, a2d, a3d, a4d, a5d, a6d, a7d, a8d, a9d, a10d, a11d, a12d, b0d, b1d, b2d, b3d, b4d, b5d, b6d, b7d, b8d, b9d, b10d, b11d, b12d⟩ := HK.out wzd hbd; clear hg) | (go_at_call 19; (with_reducible refine (HHP.out _ (by (repeat (first | exact Below.refl _ _ | assumption | refine Below.drew ?_ | refine Below.setCell ?_ (by simp; try omega) _ | refine Below.alloc ?_ (by simp; try omega) _)))).mono ?_); rintro e wzc ⟨rfl, hg⟩; have hbc : Below w6.heap.size w6 wzc := Below.trans (by (repeat (first | exact Below.refl _ _ | assumption | refine Below.drew ?_ | refine Below.setCell ?_ (by simp; try omega) _ | refine Below.alloc ?_ (by simp; try omega) _))) (hg.mono (by first | (simp; done) | ((try simp); exact Below.size (by assumption)))); obtain ⟨a0c, a1c, a2c, a3c, a4c, a5c, a6c, a7c, a8c, a9c, a10c, a11c, a12c, b0c, b1c, b2c, b3c, b4c, b5c, b6c, b7c, b8c, b9c, b10c, b11c, b12c⟩ := HK.out wzc hbc; clear hg))
    all_goals
      go_wp2_with fail
      go_meet
      exact ⟨rfl, rfl, hbd⟩
  case rest =>
    obtain ⟨rfl, rfl, HX⟩ := hcut
    have hsc := HX.out.size
    obtain ⟨a0, a1, a2, a3, a4, a5, a6, a7, a8, a9, a10, a11, a12, b0, b1, b2, b3, b4, b5, b6, b7, b8, b9, b10, b11, b12⟩ := HK.out wc HX.out
    have HW : Hid (Below w.heap.size w wc) := B1.out.trans (((M2.out.trans M6.out).below hbc hs1).trans (HX.out.mono (by omega)))
    have HLB : PdL (fun _ => True) (wc.alloc (.cells #[.int .i64 p.op, .int .i64 p.cmp, .int .i64 p.l.k, .int .i64 p.l.i, .int .i64 p.l.v.k, .int .i64 p.l.v.n, .string p.l.v.s, .int .i64 p.r.k, .int .i64 p.r.i, .int .i64 p.r.v.k, .int .i64 p.r.v.n, .string p.r.v.s, .slice pa pn pc, .int .i64 q.op, .int .i64 q.cmp, .int .i64 q.l.k, .int .i64 q.l.i, .int .i64 q.l.v.k, .int .i64 q.l.v.n, .string q.l.v.s, .int .i64 q.r.k, .int .i64 q.r.i, .int .i64 q.r.v.k, .int .i64 q.r.v.n, .string q.r.v.s, .slice qa qn qc] 29)) [p, q] wc.heap.size 0 := by
      have hpb : PdS (fun _ => True) (wc.alloc (.cells #[.int .i64 p.op, .int .i64 p.cmp, .int .i64 p.l.k, .int .i64 p.l.i, .int .i64 p.l.v.k, .int .i64 p.l.v.n, .string p.l.v.s, .int .i64 p.r.k, .int .i64 p.r.i, .int .i64 p.r.v.k, .int .i64 p.r.v.n, .string p.r.v.s, .slice pa pn pc, .int .i64 q.op, .int .i64 q.cmp, .int .i64 q.l.k, .int .i64 q.l.i, .int .i64 q.l.v.k, .int .i64 q.l.v.n, .string q.l.v.s, .int .i64 q.r.k, .int .i64 q.r.i, .int .i64 q.r.v.k, .int .i64 q.r.v.n, .string q.r.v.s, .slice qa qn qc] 29)) p.args pa pc := ((HP6.out.weak (fun _ _ => trivial)).below HX.out).below ((Below.refl _ _).alloc (Nat.le_refl _) _)
      have hqb : PdS (fun _ => True) (wc.alloc (.cells #[.int .i64 p.op, .int .i64 p.cmp, .int .i64 p.l.k, .int .i64 p.l.i, .int .i64 p.l.v.k, .int .i64 p.l.v.n, .string p.l.v.s, .int .i64 p.r.k, .int .i64 p.r.i, .int .i64 p.r.v.k, .int .i64 p.r.v.n, .string p.r.v.s, .slice pa pn pc, .int .i64 q.op, .int .i64 q.cmp, .int .i64 q.l.k, .int .i64 q.l.i, .int .i64 q.l.v.k, .int .i64 q.l.v.n, .string q.l.v.s, .int .i64 q.r.k, .int .i64 q.r.i, .int .i64 q.r.v.k, .int .i64 q.r.v.n, .string q.r.v.s, .slice qa qn qc] 29)) q.args qa qc := ((HQ6.out.weak (fun _ _ => trivial)).below HX.out).below ((Below.refl _ _).alloc (Nat.le_refl _) _)
      unfold PdL
      refine ⟨PdC.close (a := pa) (c := pc) (by go_simp) (by go_simp) ⟨by go_simp, by go_simp, by go_simp, by go_simp, by go_simp⟩ ⟨by go_simp, by go_simp, by go_simp, by go_simp, by go_simp⟩ (by rw [HPN.out]; go_simp) hpb, ?_⟩
      unfold PdL
      refine ⟨PdC.close (a := qa) (c := qc) (by go_simp) (by go_simp) ⟨by go_simp, by go_simp, by go_simp, by go_simp, by go_simp⟩ ⟨by go_simp, by go_simp, by go_simp, by go_simp, by go_simp⟩ (by rw [HQN.out]; go_simp) hqb, ?_⟩
      unfold PdL
      trivial
    obtain ⟨wa, hwa⟩ : ∃ wa, wc.alloc (.cells #[.int .i64 p.op, .int .i64 p.cmp, .int .i64 p.l.k, .int .i64 p.l.i, .int .i64 p.l.v.k, .int .i64 p.l.v.n, .string p.l.v.s, .int .i64 p.r.k, .int .i64 p.r.i, .int .i64 p.r.v.k, .int .i64 p.r.v.n, .string p.r.v.s, .slice pa pn pc, .int .i64 q.op, .int .i64 q.cmp, .int .i64 q.l.k, .int .i64 q.l.i, .int .i64 q.l.v.k, .int .i64 q.l.v.n, .string q.l.v.s, .int .i64 q.r.k, .int .i64 q.r.i, .int .i64 q.r.v.k, .int .i64 q.r.v.n, .string q.r.v.s, .slice qa qn qc] 29) = wa := ⟨_, rfl⟩
    have hza : wc.heap.size < wa.heap.size := by rw [← hwa]; simp
    have BA : Hid (Below w6.heap.size w6 wa) := by rw [← hwa]; exact HX.out.alloc hsc _
    have BWA : Hid (Below w.heap.size w wa) := by rw [← hwa]; exact HW.out.alloc HW.out.size _
    rw [hwa] at HLB
    have HL : Hid (∀ W, Below wa.heap.size wa W → wc.heap.size < W.heap.size ∧ PdL (fun _ => True) W [p, q] wc.heap.size 0) := fun W hb => ⟨Nat.lt_of_lt_of_le hza hb.size, PdL.keep hb.size (fun b _ hl => hb.block b hl) [p, q] wc.heap.size 0 (hb.block _ hza) HLB⟩
    have H1 : Hid (∀ (t : PT) (v : Value) (W : World), Below wa.heap.size wa W → Pd W v t → Calls Try.prog 19 #[v, .slice ra rn rc, .slice none 0 0] W fun e w' => e = .returned (.bool (holdsP R [] t)) ∧ Below W.heap.size W w') := fun t v W hb hv => H0.out t v W (BA.out.trans (hb.mono BA.out.size)) hv
    have HNOT : Hid (∀ W, Below wa.heap.size wa W → Calls Try.prog 19 #[(.agg #[.int .i64 6, .int .i64 0, .int .i64 0, .int .i64 0, .int .i64 0, .int .i64 0, .string ⟨#[]⟩, .int .i64 0, .int .i64 0, .int .i64 0, .int .i64 0, .string ⟨#[]⟩, .slice (some ⟨wc.heap.size, 0, none⟩) 1 2]), .slice ra rn rc, .slice none 0 0] W fun e w' => e = .returned (.bool (!x)) ∧ Below W.heap.size W w') := fun W hb => by
      have h := H1.out (.mk 6 0 zO zO [p]) (.agg #[.int .i64 6, .int .i64 0, .int .i64 0, .int .i64 0, .int .i64 0, .int .i64 0, .string ⟨#[]⟩, .int .i64 0, .int .i64 0, .int .i64 0, .int .i64 0, .string ⟨#[]⟩, .slice (some ⟨wc.heap.size, 0, none⟩) 1 2]) W hb ⟨some ⟨wc.heap.size, 0, none⟩, 2, rfl, pdS_two (l := [p]) (by simp) trivial (HL.out W hb).1 (pdL_head (HL.out W hb).2)⟩
      rw [holds_notL, hx] at h
      exact h
    have HAND : Hid (∀ W, Below wa.heap.size wa W → Calls Try.prog 19 #[(.agg #[.int .i64 4, .int .i64 0, .int .i64 0, .int .i64 0, .int .i64 0, .int .i64 0, .string ⟨#[]⟩, .int .i64 0, .int .i64 0, .int .i64 0, .int .i64 0, .string ⟨#[]⟩, .slice (some ⟨wc.heap.size, 0, none⟩) 2 2]), .slice ra rn rc, .slice none 0 0] W fun e w' => e = .returned (.bool (x && y)) ∧ Below W.heap.size W w') := fun W hb => by
      have h := H1.out (.mk 4 0 zO zO [p, q]) (.agg #[.int .i64 4, .int .i64 0, .int .i64 0, .int .i64 0, .int .i64 0, .int .i64 0, .string ⟨#[]⟩, .int .i64 0, .int .i64 0, .int .i64 0, .int .i64 0, .string ⟨#[]⟩, .slice (some ⟨wc.heap.size, 0, none⟩) 2 2]) W hb ⟨some ⟨wc.heap.size, 0, none⟩, 2, rfl, pdS_two (l := [p, q]) (by simp) trivial (HL.out W hb).1 (HL.out W hb).2⟩
      rw [holds_andL, hx, hy] at h
      exact h
    have HOR : Hid (∀ W, Below wa.heap.size wa W → Calls Try.prog 19 #[(.agg #[.int .i64 5, .int .i64 0, .int .i64 0, .int .i64 0, .int .i64 0, .int .i64 0, .string ⟨#[]⟩, .int .i64 0, .int .i64 0, .int .i64 0, .int .i64 0, .string ⟨#[]⟩, .slice (some ⟨wc.heap.size, 0, none⟩) 2 2]), .slice ra rn rc, .slice none 0 0] W fun e w' => e = .returned (.bool (x || y)) ∧ Below W.heap.size W w') := fun W hb => by
      have h := H1.out (.mk 5 0 zO zO [p, q]) (.agg #[.int .i64 5, .int .i64 0, .int .i64 0, .int .i64 0, .int .i64 0, .int .i64 0, .string ⟨#[]⟩, .int .i64 0, .int .i64 0, .int .i64 0, .int .i64 0, .string ⟨#[]⟩, .slice (some ⟨wc.heap.size, 0, none⟩) 2 2]) W hb ⟨some ⟨wc.heap.size, 0, none⟩, 2, rfl, pdS_two (l := [p, q]) (by simp) trivial (HL.out W hb).1 (HL.out W hb).2⟩
      rw [holds_orL, hx, hy] at h
      exact h
    have HALL : Hid (∀ W, Below wa.heap.size wa W → Calls Try.prog 19 #[(.agg #[.int .i64 4, .int .i64 0, .int .i64 0, .int .i64 0, .int .i64 0, .int .i64 0, .string ⟨#[]⟩, .int .i64 0, .int .i64 0, .int .i64 0, .int .i64 0, .string ⟨#[]⟩, .slice none 0 0]), .slice ra rn rc, .slice none 0 0] W fun e w' => e = .returned (.bool true) ∧ Below W.heap.size W w') := fun W hb => by
      have h := H1.out (.mk 4 0 zO zO []) (.agg #[.int .i64 4, .int .i64 0, .int .i64 0, .int .i64 0, .int .i64 0, .int .i64 0, .string ⟨#[]⟩, .int .i64 0, .int .i64 0, .int .i64 0, .int .i64 0, .string ⟨#[]⟩, .slice none 0 0]) W hb ⟨none, 0, rfl, PdS.nil _ _⟩
      rw [holds_all] at h
      exact h
    have HANY : Hid (∀ W, Below wa.heap.size wa W → Calls Try.prog 19 #[(.agg #[.int .i64 5, .int .i64 0, .int .i64 0, .int .i64 0, .int .i64 0, .int .i64 0, .string ⟨#[]⟩, .int .i64 0, .int .i64 0, .int .i64 0, .int .i64 0, .string ⟨#[]⟩, .slice none 0 0]), .slice ra rn rc, .slice none 0 0] W fun e w' => e = .returned (.bool false) ∧ Below W.heap.size W w') := fun W hb => by
      have h := H1.out (.mk 5 0 zO zO []) (.agg #[.int .i64 5, .int .i64 0, .int .i64 0, .int .i64 0, .int .i64 0, .int .i64 0, .string ⟨#[]⟩, .int .i64 0, .int .i64 0, .int .i64 0, .int .i64 0, .string ⟨#[]⟩, .slice none 0 0]) W hb ⟨none, 0, rfl, PdS.nil _ _⟩
      rw [holds_any0] at h
      exact h
    clear HLB HL H0 H1 hx hy HP6 HQ6 HROW HK HHP HHQ HW
    go_wp2_with fail
    try rw [hwa]
    clear hwa
    have BB := Lib.hid (HB.out wa)
    refine BB.out.mono ?_
    rintro e w8 ⟨rfl, hb8⟩
    have B8 := Lib.hid hb8
    clear hb8 BB HB BA HX
    cases x <;> cases y
    all_goals
      simp only [Bool.not_true, Bool.not_false, Bool.and_true, Bool.and_false, Bool.true_and, Bool.false_and, Bool.or_true, Bool.or_false, Bool.true_or, Bool.false_or] at HNOT HAND HOR
      go_wp2_with fail
      refine (HNOT.out _ B8.out).mono ?_
      rintro e w9 ⟨rfl, hb⟩
      have B9 : Hid (Below wa.heap.size wa w9) := B8.out.trans (hb.mono B8.out.size)
      clear hb
      go_wp2_with fail
      refine (HAND.out _ B9.out).mono ?_
      rintro e w10 ⟨rfl, hb⟩
      have B10 : Hid (Below wa.heap.size wa w10) := B9.out.trans (hb.mono B9.out.size)
      clear hb
      go_wp2_with fail
      refine (HOR.out _ B10.out).mono ?_
      rintro e w11 ⟨rfl, hb⟩
      have B11 : Hid (Below wa.heap.size wa w11) := B10.out.trans (hb.mono B10.out.size)
      clear hb
      go_wp2_with fail
      refine (HALL.out _ B11.out).mono ?_
      rintro e w12 ⟨rfl, hb⟩
      have B12 : Hid (Below wa.heap.size wa w12) := B11.out.trans (hb.mono B11.out.size)
      clear hb
      go_wp2_with fail
      refine (HANY.out _ B12.out).mono ?_
      rintro e w13 ⟨rfl, hb⟩
      have B13 : Hid (Below wa.heap.size wa w13) := B12.out.trans (hb.mono B12.out.size)
      clear hb
      go_wp2_with fail
      go_ret
      exact ⟨rfl, BWA.out.trans (B13.out.mono BWA.out.size)⟩
end Go.Proofs.Ytbddmapbppnfoaa
