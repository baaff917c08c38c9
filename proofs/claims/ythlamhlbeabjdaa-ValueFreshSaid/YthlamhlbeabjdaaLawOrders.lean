/- Law ValueOrders. -/
import Derived.Test.YthlamhlbeabjdaaLawRows
import Derived.Test.YthlamhlbeabjdaaRCopy
import Derived.Test.YthlamhlbeabjdaaOpen
namespace Go.Proofs.Ythlamhlbeabjdaa
open Go.RowKit Go.Deep

structure HeadAt (w : World) (a : Option Addr) (n cap : Nat) (xs : List E) : Prop where
  len : xs.length = min n 8
  hcap : n ≤ cap
  hmax : cap ≤ maxLen
  nil : a = none → n = 0 ∧ cap = 0
  rows : ∀ x ∈ xs, RowB w.heap.size w x.1 x.2
  cells : ∀ j (h : j < xs.length), ∃ b off, a = some ⟨b, off, none⟩ ∧ b < w.heap.size ∧ w.cell? ⟨b, off + j, none⟩ = some xs[j].1

/-- 'append(x, y...)', both rows of the call's own. -/
theorem wpList_append_two {P : Program} {w : World} {ops : Array Oper} {rest : List Oper} {o : Oper} {a : Act} {Q : Exit → Act → World → Prop} (hgd : o.guard = none) (s x : Operand) (t : TypeId)
    (ho : o.op = .call { callee := .builtin .append, args := #[s, x], argTypes := #[t, t] })
    (e : TypeId) (i : TypeInfo) (z : Value) (bytes : Nat) (ht : P.underlying t = some (.slice e)) (hi : P.info? e = some i) (hz : i.zero = some z)
    (hsize : i.size = 1) (hby : i.bytes = bytes) (hzs : z.cells.size = 1)
    (base : Nat) (v : Value) (n : Nat) (xs : List Value) (hs : a.eval s = v) (hown : w.ownsRow base e 1 v n xs)
    (base2 : Nat) (v2 : Value) (n2 : Nat) (xs2 : List Value) (hx : a.eval x = v2) (hown2 : w.ownsRow base2 e 1 v2 n2 xs2) (h1 : ∀ u ∈ xs2, u.oneCell' = true)
    (h63 : n + n2 ≤ maxLen) (hbytes : (n + n2) * bytes ≤ 140737488355328) (hbase : base ≤ w.heap.size)
    (h : ∀ v' w', w'.ownsRow base e 1 v' (n + n2) (xs ++ xs2) → w.grownBy w' v.ownBlock → wpList P ops Q rest (a.put o.dst v') w') : wpList P ops Q (o :: rest) a w := by
  rcases hown2.2 with ⟨rfl, rfl⟩ | ⟨g, cap, cur, rfl, _⟩
  · have hn : xs2 = [] := List.eq_nil_of_length_eq_zero (by simpa using hown2.1)
    subst hn
    refine wpList_append_own_none hgd s x t ho base e i 1 ht hi v n xs hs hown hx (h _ _ ?_ (World.grownBy.refl _ _))
    simpa using hown
  · refine wpList_append_own w hgd s x t ho base e i z 1 bytes ht hi hz hsize hby hzs (by decide) v n xs hs hown ⟨g, 0, none⟩ n2 cap xs2 hx (by simpa using hown2.1) (fun j u hj => ?_) h1 h63 hbytes hbase (fun v' w' a1 a2 _ => h v' w' a1 a2)
    have hj2 := (List.getElem?_eq_some_iff.1 hj).1
    have ha : (⟨g, 0, none⟩ : Addr).add j = ⟨g, j, none⟩ := by unfold Addr.add; split <;> simp_all
    rw [ha, hown2.cellAt j (by have := hown2.1; omega)]
    exact hj

theorem rowT_grown {base b2 : Nat} {v : Value} {n : Nat} {ws : List Value} {w w' : World} {rv : Value} {l : List V} (hr : RowT base w rv l) (ho : w.ownsRow b2 38 1 v n ws) (hg : w.grownBy w' v.ownBlock) : RowT base w' rv l :=
  hr.keep fun b cur fr _ hh => by
    have hbs := (Array.getElem?_eq_some_iff.1 hh).1
    refine hg.block b hbs (fun e => ?_)
    rcases ho.2 with ⟨hv, _⟩ | ⟨g', cap', cur', hv, _, hgg, _⟩
    · rw [hv] at e; simp [Value.ownBlock] at e
    · rw [hv] at e
      simp only [Value.ownBlock, Option.some.injEq] at e
      rw [← e, hh] at hgg
      simp only [Option.some.injEq, Obj.cells.injEq] at hgg
      exact absurd hgg.2.1 (by decide)

/-- What Set returns, as a list of rows. -/
def SetOut (w : World) (xs : List E) (e : Ending) (w' : World) : Prop :=
  ∃ (v : Value) (ys : List E), e = .returned v ∧ RowsB w'.heap.size w' v ys ∧ Rel (ys.map (·.2)) ∧ (∀ r, r ∈ ys.map (·.2) ↔ r ∈ xs.map (·.2)) ∧ ys.length ≤ xs.length ∧ Below w.heap.size w w'
theorem setOut (v : Value) (xs : List E) (w : World) (h : RowsB w.heap.size w v xs) : Calls Try.prog 27 #[v] w (SetOut w xs) := by
  have hn : xs.length ≤ 4398046511104 := by obtain ⟨_, _, _, hn, _⟩ := h; exact hn
  have hrl : ∀ x ∈ xs, x.2.length ≤ 4398046511104 := by obtain ⟨_, _, _, _, hx, _⟩ := h; exact fun x hm => by obtain ⟨_, _, _, hh, _⟩ := hx x hm; exact hh
  refine (vSet_any v xs w h).mono ?_
  rintro e w' ⟨zs, bs, rfl, hz, hrel, hmem, hI⟩
  let ys : List E := (List.range zs.length).map fun j => (.slice (some ⟨bs j, 0, none⟩) (zs.getD j (.slice none 0 0, [])).2.length (zs.getD j (.slice none 0 0, [])).2.length, (zs.getD j (.slice none 0 0, [])).2)
  have hyl : ys.length = zs.length := by simp [ys]
  have hyj : ∀ j (h : j < zs.length), ys[j]'(by omega) = (.slice (some ⟨bs j, 0, none⟩) zs[j].2.length zs[j].2.length, zs[j].2) := fun j h => by simp [ys, List.getElem?_eq_getElem h]
  have hmap : ys.map (·.2) = zs.map (·.2) := by
    apply List.ext_getElem
    · simp [hyl]
    · intro j h1 h2
      simp only [List.length_map] at h1 h2
      simp only [List.getElem_map]
      rw [hyj j h2]
  refine ⟨_, ys, rfl, ⟨some ⟨w.heap.size, 0, none⟩, xs.length, by rw [hyl], by omega, fun x hx => ?_, fun j hj => ⟨w.heap.size, 0, rfl, hI.hb, ?_⟩⟩, by rw [hmap]; exact hrel, by rw [hmap]; exact hmem, by omega, hI.below⟩
  · obtain ⟨j, hj, rfl⟩ := List.getElem_of_mem hx
    have hj' : j < zs.length := by omega
    rw [hyj j hj']
    obtain ⟨_, _, d3, d4⟩ := hI.done j hj' hj'
    have hlen : zs[j].2.length ≤ 4398046511104 := by
      have hm := (hmem zs[j].2).1 (List.mem_map.2 ⟨_, List.getElem_mem hj', rfl⟩)
      obtain ⟨x, hx1, hx2⟩ := List.mem_map.1 hm
      rw [← hx2]; exact hrl x hx1
    refine ⟨some ⟨bs j, 0, none⟩, _, rfl, hlen, fun i hi => ⟨bs j, 0, rfl, d3, ?_⟩⟩
    obtain ⟨e0, e1, e2⟩ := cellsOf_at zs[j].2 i hi
    have hc : ∀ o, w'.cell? ⟨bs j, o, none⟩ = (cellsOf zs[j].2)[o]? := fun o => by
      unfold World.cell?
      rw [d4]
      simp
    unfold CellsV
    rw [Nat.zero_add, hc, hc, hc]
    exact ⟨e0, e1, e2⟩
  · have hj' : j < zs.length := by omega
    rw [Nat.zero_add, (hI.done j hj' hj').1, hyj j hj']

set_option maxHeartbeats 2000000 in
theorem orders_walk (cv : Value) (cn : Nat) (la : Option Addr) (ln lc : Nat) (xs : List E) (w : World) (hcv : BytesAt w cv cn) (hl : HeadAt w la ln lc xs) : Calls Try.prog 9 #[cv, .slice la ln lc] w fun e w' => e = .returned (.bool true) ∧ Below w.heap.size w w' := by
  have hinfo : (Try.prog.info? 38).map (fun i => (i.zero, i.size, i.bytes)) = some (some (.slice none 0 0), 1, 24) := by kernel_rfl
  obtain ⟨i0, hi, hz0, hz1, hz2⟩ := info_parts hinfo
  have HI := Lib.hid hi
  have HZ0 := Lib.hid hz0
  have HZ1 := Lib.hid hz1
  have HZ2 := Lib.hid hz2
  have HN := Lib.hid (cNew_any cv cn w hcv)
  obtain ⟨qa, qc, rfl, _⟩ := hcv
  have HB : Hid (∀ W, Calls Try.prog 13 #[] W fun e w' => e = .returned (.bool true) ∧ Below W.heap.size W w') := begun_any
  have HL := Lib.hid hl
  have hlc := hl.hcap
  have hlm := hl.hmax
  clear hi hz0 hz1 hz2 hinfo hl
  obtain ⟨m, hm⟩ : ∃ m, m = min ln 8 := ⟨_, rfl⟩
  go_enter Try.func9, Try.ntmps9
  go_wp2_with fail
  refine HN.out.mono ?_
  rintro e w1 ⟨bc, rfl, hb1, hbc, hok⟩
  have hs1 := hb1.size
  have HOK := Lib.hid hok
  have HB1 := Lib.hid hb1
  have hbl := hok.lt
  clear hok HN hb1
  have L1 : Hid (xs.length = (min (ln : Int) 8).toNat) := by have := HL.out.len; show _ = _; omega
  have L2 : Hid (la = none → (min (ln : Int) 8).toNat = 0 ∧ lc = 0) := fun h => by have := HL.out.nil h; omega
  have L3 : Hid ((xs.map (·.1)).length = (min (ln : Int) 8).toNat * 1) := by have := L1.out; show _ = _; simpa using this
  have L4 : Hid (∀ p, la = some p → ∀ j u, (xs.map (·.1))[j]? = some u → w1.cell? (p.add j) = some u) := by
    rintro p rfl j u hj
    have hjl : j < xs.length := by simpa using (List.getElem?_eq_some_iff.1 hj).1
    obtain ⟨b, off, e, hb, hc⟩ := HL.out.cells j hjl
    simp only [Option.some.injEq] at e
    subst e
    rw [add_form _ rfl, HB1.out.cell (p := ⟨b, off + j, none⟩) hb, hc, ← hj]
    simp [List.getElem?_eq_getElem hjl]
  have L5 : Hid (∀ u ∈ xs.map (·.1), u.oneCell' = true) := fun u hu => by
    obtain ⟨x, hx, rfl⟩ := List.mem_map.1 hu
    obtain ⟨_, _, e, _⟩ := HL.out.rows x hx
    rw [e]; rfl
  have L6 : Hid ((min (ln : Int) 8).toNat ≤ maxLen) := by show _ ≤ _; unfold maxLen; omega
  have L7 : Hid ((min (ln : Int) 8).toNat * 24 ≤ 140737488355328) := by show _ ≤ _; omega
  go_wp2_with (at_builtin; refine wpList_append_nil rfl _ _ 39 rfl 38 i0 (.slice none 0 0) 1 24 Try.underlying39 HI.out HZ0.out HZ1.out HZ2.out rfl (by decide) rfl la (min (ln : Int) 8).toNat lc (xs.map (·.1)) rfl L2.out L3.out L4.out L5.out L6.out L7.out ?_; intro v1 wa hown1 hba; have HOW1 := Lib.hid hown1; have HBA := Lib.hid hba; clear hown1 hba)
  have hs2 := HBA.out.size
  have HR := Lib.hid (lRows_any bc w1.heap.size wa (HOK.out.below HBA.out (Nat.le_refl _)))
  refine HR.out.mono ?_
  rintro e w2 ⟨v, L, rfl, hL6, hinv⟩
  have HINV := Lib.hid hinv
  have hs3 : wa.heap.size ≤ w2.heap.size := hinv.mv.size
  have HOW2 := Lib.hid (own_mv HOW1.out hinv.mv hbl.1)
  clear HR hinv HOW1
  have M1 : Hid (∀ u ∈ L.map (·.1), u.oneCell' = true) := fun u hu => by
    obtain ⟨x, hx, rfl⟩ := List.mem_map.1 hu
    obtain ⟨_, _, e, _⟩ := HINV.out.rows x hx
    rw [e]; rfl
  have M2 : Hid ((min (ln : Int) 8).toNat + L.length ≤ maxLen) := by show _ ≤ _; unfold maxLen; omega
  have M3 : Hid (((min (ln : Int) 8).toNat + L.length) * 24 ≤ 140737488355328) := by show _ ≤ _; omega
  have M4 : Hid (w1.heap.size ≤ w2.heap.size) := by show _ ≤ _; omega
  go_wp2_with (at_builtin; refine wpList_append_two rfl _ _ 39 rfl 38 i0 (.slice none 0 0) 24 Try.underlying39 HI.out HZ0.out HZ1.out HZ2.out rfl w1.heap.size v1 _ _ rfl HOW2.out wa.heap.size v L.length _ rfl HINV.out.own M1.out M2.out M3.out M4.out ?_; intro v3 w5 hown2 hgr; have HOWN := Lib.hid hown2; have HGR := Lib.hid hgr; clear hown2 hgr)
  obtain ⟨LL, hLL⟩ : ∃ LL : List E, LL = xs ++ L := ⟨_, rfl⟩
  have hkr1 := HOW2.out.lt
  have B25 : Below w1.heap.size w2 w5 := (Below.refl _ _).grown HGR.out (by omega) (fun k e => (hkr1 k e).1)
  have BW : Hid (Below w.heap.size w w5) :=
    HB1.out.trans ((HBA.out.mono hs1).trans ((HINV.out.mv.below hbc (by omega)).trans (B25.mono hs1)))
  have hll : LL.length = (min (ln : Int) 8).toNat + L.length := by have := L1.out; rw [hLL, List.length_append]; omega
  have hl14 : LL.length ≤ 14 := by omega
  have HOWL : Hid (w5.ownsRow w1.heap.size 38 1 v3 LL.length (LL.map (·.1))) := by
    show World.ownsRow _ _ _ _ _ _ _
    have := HOWN.out
    rw [hll, hLL]
    simpa using this
  have hs5 : w2.heap.size ≤ w5.heap.size := HGR.out.size
  have HRB : Hid (∀ x ∈ LL, RowB w5.heap.size w5 x.1 x.2) := by
    intro x hx
    rw [hLL, List.mem_append] at hx
    rcases hx with hx | hx
    · exact ((HL.out.rows x hx).below BW.out (Nat.le_refl _)).mono BW.out.size
    · exact (rowT_grown (HINV.out.rows x hx) HOW2.out HGR.out).rowB
  have hrl : RowsB w5.heap.size w5 v3 LL := rowsB_own HOWL.out HRB.out (by omega)
  have HRL := Lib.hid hrl
  have hws5 : w.heap.size ≤ w5.heap.size := BW.out.size
  have hw15 : w1.heap.size ≤ w5.heap.size := by omega
  clear L1 L2 L3 L4 L5 L6 L7 M1 M2 M3 M4 HINV HOW2 HOWN HGR B25 HBA HB1 HOK HL hkr1 hLL hll hL6
  have HS := Lib.hid (setOut v3 LL w5 hrl)
  clear hrl
  refine HS.out.mono ?_
  rintro e w6 ⟨sv, ys, rfl, hrs, hrel, hmem, hyl, hb6⟩
  have HRS := Lib.hid hrs
  have HREL := Lib.hid hrel
  have HMEM := Lib.hid hmem
  have HB6 := Lib.hid hb6
  have hs6 := hb6.size
  clear HS hrs hrel hmem hb6
  have HC := Lib.hid (lCopies_any v3 LL w6 ((HRL.out.below HB6.out (Nat.le_refl _)).mono hs6))
  go_wp2_with fail
  refine HC.out.mono ?_
  rintro e w7 ⟨v4, K, rfl, hK, hk⟩
  have HK := Lib.hid hK
  have HKI := Lib.hid hk
  have hs7 : w6.heap.size ≤ w7.heap.size := hk.below.size
  have hKl : K.length = LL.length := by have := congrArg List.length hK; simpa using this
  have HB7 : Hid (Below w5.heap.size w5 w7) := HB6.out.trans (hk.below.mono hs6)
  have HOWL7 : Hid (w7.ownsRow w1.heap.size 38 1 v3 LL.length (LL.map (·.1))) := own_below HOWL.out HB7.out
  clear HC hK hk
  have M1 : Hid (∀ u ∈ LL.map (·.1), u.oneCell' = true) := fun u hu => by
    obtain ⟨x, hx, rfl⟩ := List.mem_map.1 hu
    obtain ⟨_, _, e, _⟩ := HRB.out x hx
    rw [e]; rfl
  have M2 : Hid (K.length + LL.length ≤ maxLen) := by show _ ≤ _; unfold maxLen; omega
  have M3 : Hid ((K.length + LL.length) * 24 ≤ 140737488355328) := by show _ ≤ _; omega
  have M4 : Hid (w6.heap.size ≤ w7.heap.size) := hs7
  go_wp2_with (at_builtin; refine wpList_append_two rfl _ _ 39 rfl 38 i0 (.slice none 0 0) 24 Try.underlying39 HI.out HZ0.out HZ1.out HZ2.out rfl w6.heap.size v4 _ _ rfl HKI.out.own w1.heap.size v3 LL.length _ rfl HOWL7.out M1.out M2.out M3.out M4.out ?_; intro v5 w8 hown2 hgr; have HOWN := Lib.hid hown2; have HGR := Lib.hid hgr; clear hown2 hgr)
  have hkr2 := HKI.out.own.lt
  have hs8 : w7.heap.size ≤ w8.heap.size := HGR.out.size
  have HB68 : Hid (Below w6.heap.size w6 w8) := HKI.out.below.grown HGR.out hs7 (fun k e => (hkr2 k e).1)
  have HB58 : Hid (Below w5.heap.size w5 w8) := HB6.out.trans (HB68.out.mono hs6)
  have HTW : Hid (RowsB w8.heap.size w8 v5 (K ++ LL)) := by
    refine rowsB_own (base := w6.heap.size) (by simpa using HOWN.out) (fun x hx => ?_) (by simp; omega)
    rw [List.mem_append] at hx
    rcases hx with hx | hx
    · exact (rowT_grown (HKI.out.rows x hx) HKI.out.own HGR.out).rowB
    · exact ((HRB.out x hx).below HB58.out (Nat.le_refl _)).mono HB58.out.size
  have HMT : Hid (∀ r, r ∈ (K ++ LL).map (·.2) ↔ r ∈ ys.map (·.2)) := fun r => by
    rw [HMEM.out r, List.map_append, List.mem_append, HK.out, List.mem_reverse]
    simp
  clear M1 M2 M3 M4 HOWN HGR HKI HOWL HOWL7 HK hkr2 HB7 HMEM HRB HRL
  have HREL2 : Hid (∀ (M : List E), Rel (M.map (·.2)) → (∀ r, r ∈ M.map (·.2) ↔ r ∈ ys.map (·.2)) → decide (M.map (·.2) = ys.map (·.2)) = true) := fun M h1 h2 => decide_eq_true (rel_unique _ _ h1 HREL.out h2)
  go_wp2_with fail
  refine (HB.out w8).mono ?_
  rintro e w9 ⟨rfl, hb9⟩
  have HB69 : Hid (Below w6.heap.size w6 w9) := HB68.out.trans (hb9.mono (by omega))
  have HS9 := Lib.hid (setOut v5 (K ++ LL) w9 ((HTW.out.below hb9 (Nat.le_refl _)).mono hb9.size))
  have hs9 := hb9.size
  clear hb9 HB68 HTW
  go_wp2_with fail
  refine HS9.out.mono ?_
  rintro e w10 ⟨tv, ts, rfl, hrs, hrel, hmem, _, hb10⟩
  have HB610 : Hid (Below w6.heap.size w6 w10) := HB69.out.trans (hb10.mono (by omega))
  have hs10 := hb10.size
  have HSM := Lib.hid (rSame_any tv sv ts ys w10 hrs ((HRS.out.below HB610.out (Nat.le_refl _)).mono HB610.out.size))
  have HD := Lib.hid (HREL2.out ts hrel (fun r => (hmem r).trans (HMT.out r)))
  clear HS9 hrs hrel hmem hb10 HB69
  go_wp2_with fail
  refine HSM.out.mono ?_
  rintro e w11 ⟨rfl, hg11⟩
  rw [HD.out]
  have HB611 : Hid (Below w6.heap.size w6 w11) := HB610.out.trans (hg11.below.mono (by omega))
  have hs11 := hg11.below.size
  have HC := Lib.hid (lCopies_any sv ys w11 ((HRS.out.below HB611.out (Nat.le_refl _)).mono HB611.out.size))
  clear HSM HD hg11 HB610
  go_wp2_with fail
  refine HC.out.mono ?_
  rintro e w12 ⟨v6, K2, rfl, hK, hk⟩
  have HB612 : Hid (Below w6.heap.size w6 w12) := HB611.out.trans (hk.below.mono (by omega))
  have hs12 : w11.heap.size ≤ w12.heap.size := hk.below.size
  have hKl2 : K2.length = ys.length := by have := congrArg List.length hK; simpa using this
  have HS12 := Lib.hid (setOut v6 K2 w12 (hk.rowsB (by omega)))
  have HMK : Hid (∀ r, r ∈ K2.map (·.2) ↔ r ∈ ys.map (·.2)) := fun r => by rw [hK, List.mem_reverse]
  clear HC hK hk HB611
  go_wp2_with fail
  refine HS12.out.mono ?_
  rintro e w13 ⟨tv2, ts2, rfl, hrs, hrel, hmem, _, hb13⟩
  have HB613 : Hid (Below w6.heap.size w6 w13) := HB612.out.trans (hb13.mono (by omega))
  have hs13 := hb13.size
  have HSM := Lib.hid (rSame_any tv2 sv ts2 ys w13 hrs ((HRS.out.below HB613.out (Nat.le_refl _)).mono HB613.out.size))
  have HD := Lib.hid (HREL2.out ts2 hrel (fun r => (hmem r).trans (HMK.out r)))
  clear HS12 hrs hrel hmem hb13 HB612
  go_wp2_with fail
  refine HSM.out.mono ?_
  rintro e w14 ⟨rfl, hg14⟩
  rw [HD.out]
  have HB614 : Hid (Below w6.heap.size w6 w14) := HB613.out.trans (hg14.below.mono (by omega))
  have hs14 := hg14.below.size
  have HS14 := Lib.hid (setOut sv ys w14 ((HRS.out.below HB614.out (Nat.le_refl _)).mono HB614.out.size))
  clear HSM HD hg14 HB613
  go_wp2_with fail
  refine HS14.out.mono ?_
  rintro e w15 ⟨tv3, ts3, rfl, hrs, hrel, hmem, _, hb15⟩
  have HB615 : Hid (Below w6.heap.size w6 w15) := HB614.out.trans (hb15.mono (by omega))
  have hs15 := hb15.size
  have HSM := Lib.hid (rSame_any tv3 sv ts3 ys w15 hrs ((HRS.out.below HB615.out (Nat.le_refl _)).mono HB615.out.size))
  have HD := Lib.hid (HREL2.out ts3 hrel hmem)
  clear HS14 hrs hrel hmem hb15 HB614
  go_wp2_with fail
  refine HSM.out.mono ?_
  rintro e w16 ⟨rfl, hg16⟩
  rw [HD.out]
  have HB616 : Hid (Below w6.heap.size w6 w16) := HB615.out.trans (hg16.below.mono (by omega))
  clear HSM HD hg16 HB615
  go_wp2_with fail
  go_ret
  exact ⟨rfl, BW.out.trans ((HB6.out.trans (HB616.out.mono hs6)).mono hws5)⟩
end Go.Proofs.Ythlamhlbeabjdaa
