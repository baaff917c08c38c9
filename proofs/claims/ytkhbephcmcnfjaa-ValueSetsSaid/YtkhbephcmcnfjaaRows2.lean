/- Walk of rows: a few rows. -/
import Derived.Test.YtkhbephcmcnfjaaCase5
namespace Go.Proofs.Ytkhbephcmcnfjaa
open Go.RowKit

theorem own_mv {bc base : Nat} {e : TypeId} {size : Nat} {v : Value} {n : Nat} {xs : List Value} {w w' : World} (h : w.ownsRow base e size v n xs) (hm : Mv bc w w') (hb : bc < base) : w'.ownsRow base e size v n xs := by
  refine h.kept (row := some bc) ⟨hm.os, hm.tape, hm.output, hm.size, fun b hb' hn => hm.block b hb' (fun e => hn (by rw [e]))⟩ ?_
  cases hob : Value.ownBlock v with
  | none => exact .inl rfl
  | some kk => right; intro e; simp only [Option.some.injEq] at e; have := (h.lt kk hob).1; omega

/-- What the loop of rows knows. -/
structure RInv (bc B base : Nat) (w0 : World) (v : Value) (L : List E) (w : World) : Prop where
  own : w.ownsRow base 25 1 v L.length (L.map (·.1))
  rows : ∀ x ∈ L, RowT B w x.1 x.2
  mv : Mv bc w0 w
  ok : CaseOk bc B w
theorem RInv.step {bc B base : Nat} {w0 : World} {v : Value} {L : List E} {w w' : World} (h : RInv bc B base w0 v L w) (hm : Mv bc w w') (ho : CaseOk bc B w') (hb : bc < base) : RInv bc B base w0 v L w' :=
  ⟨own_mv h.own hm hb, fun x hx => (h.rows x hx).mv hm h.ok.lt.1, h.mv.trans hm, ho⟩
theorem RInv.app {bc B base : Nat} {w0 : World} {v v' : Value} {L : List E} {w w' : World} {O : Obj} (h : RInv bc B base w0 v L w) (x : E) (hx : RowT B w x.1 x.2) (hbase : w0.heap.size ≤ base) (hB : B ≤ base)
    (ho : w'.ownsRow base 25 1 v' (L.length + 1) (L.map (·.1) ++ [x.1])) (hg : (w.alloc O).grownBy w' v.ownBlock) : RInv bc B base w0 v' (L ++ [x]) w' := by
  have hlt := h.own.lt
  have hk : ∀ b cur fr, B ≤ b → w.heap[b]? = some (.cells cur 42 fr) → w'.heap[b]? = w.heap[b]? := by
    intro b cur fr _ hh
    have hbs := (Array.getElem?_eq_some_iff.1 hh).1
    have h1 : (w.alloc O).heap[b]? = w.heap[b]? := Below.heap_alloc w O b hbs
    refine (hg.block b (by simp; omega) (fun e => ?_)).trans h1
    rcases h.own.2 with ⟨hv, _⟩ | ⟨g, cap, cur', hv, _, hgg, _⟩
    · rw [hv] at e; simp [Value.ownBlock] at e
    · rw [hv] at e
      simp only [Value.ownBlock, Option.some.injEq] at e
      rw [← e, hh] at hgg
      simp only [Option.some.injEq, Obj.cells.injEq] at hgg
      exact absurd hgg.2.1 (by decide)
  refine ⟨by simpa using ho, fun y hy => ?_, (h.mv.alloc O).grown hg hbase (fun kk e => (hlt kk e).1), (h.ok.alloc O).grown hg hB (fun kk e => (hlt kk e).1)⟩
  rw [List.mem_append] at hy
  rcases hy with hy | hy
  · exact (h.rows y hy).keep hk
  · simp only [List.mem_singleton] at hy
    subst hy
    exact hx.keep hk
theorem RowT.lo {lo lo' : Nat} {w : World} {v : Value} {l : List V} (h : RowT lo w v l) (hl : lo' ≤ lo) : RowT lo' w v l := by
  obtain ⟨a, c, e, hn, hi⟩ := h
  refine ⟨a, c, e, hn, fun i h' => ?_⟩
  obtain ⟨b, off, cur, fr, ea, hb, hh, hc⟩ := hi i h'
  exact ⟨b, off, cur, fr, ea, by omega, hh, hc⟩

def RowsPost (bc B : Nat) (w : World) (e : Ending) (w' : World) : Prop := ∃ (v : Value) (L : List E), e = .returned v ∧ L.length ≤ 6 ∧ RInv bc B w.heap.size w v L w'

theorem one_cell (w : World) (x : Value) (t : TypeId) : ∀ (j : Nat) (u : Value), ([x] : List Value)[j]? = some u → (w.alloc (.cells #[x] t)).cell? ((⟨w.heap.size, 0, none⟩ : Addr).add j) = some u := by
  intro j u hj
  have hj0 : j = 0 := by have := (List.getElem?_eq_some_iff.1 hj).1; simpa using this
  subst hj0
  have ha : (⟨w.heap.size, 0, none⟩ : Addr).add 0 = ⟨w.heap.size, 0, none⟩ := by unfold Addr.add; simp
  rw [ha]
  exact (World.cell?_alloc_mark w #[x] t (0, 0) 0).trans hj

set_option maxHeartbeats 2000000 in
theorem lRows_any (bc B : Nat) (w : World) (h : CaseOk bc B w) : Calls Try.prog 13 #[.pointer (some ⟨bc, 0, none⟩)] w (RowsPost bc B w) := by
  have hinfo : (Try.prog.info? 25).map (fun i => (i.zero, i.size, i.bytes)) = some (some (.slice none 0 0), 1, 24) := by kernel_rfl
  obtain ⟨i0, hi, hz0, hz1, hz2⟩ := info_parts hinfo
  have HI := Lib.hid hi
  have HZ0 := Lib.hid hz0
  have HZ1 := Lib.hid hz1
  have HZ2 := Lib.hid hz2
  have HI7 := Lib.hid (cInt_any bc B 7 w (by omega) (by omega) h)
  have hbl := h.lt
  clear hi hz0 hz1 hz2 hinfo h
  go_enter Try.func13, Try.ntmps13
  go_wp2_with fail
  refine HI7.out.mono ?_
  rintro e w1 ⟨r, rfl, hr0, hr1, hm, ho⟩
  obtain ⟨r, rfl⟩ : ∃ q : Nat, r = q := ⟨r.toNat, by omega⟩
  have hr6 : r ≤ 6 := by omega
  have HM0 : Hid (Mv bc w w1 ∧ CaseOk bc B w1) := ⟨hm, ho⟩
  clear HI7 hm ho hr0 hr1
  go_wp2_with fail
  go_loopg [3, 4] r (fun g v i wr => ∃ (k : Nat) (L : List E), k ≤ g ∧ i = .int .i64 k ∧ Hid (k + L.length = r ∧ RInv bc B w.heap.size w v L wr))
  case atStart => exact ⟨r, [], by omega, rfl, by simp, ⟨⟨by simp, .inl ⟨rfl, rfl⟩⟩, fun x hx => by simp at hx, HM0.out.1, HM0.out.2⟩⟩
  case round =>
    clear HM0
    obtain ⟨k, L, hk, rfl, hx⟩ := hrel
    by_cases h0 : k = 0
    · subst h0
      go_wp2_with fail
      go_ret
      exact ⟨_, L, rfl, by have := hx.out.1; omega, hx.out.2⟩
    · have hkp : 0 < k := by omega
      have hk2 : k ≤ 6 := by have := hx.out.1; omega
      have hL6 : L.length < 6 := by have := hx.out.1; omega
      have hws : w.heap.size ≤ wr.heap.size := hx.out.2.mv.size
      obtain ⟨va, vc, hv5⟩ := own_slice hx.out.2.own
      subst hv5
      have HI3 := Lib.hid (cInt_any bc B 3 wr (by omega) (by omega) hx.out.2.ok)
      go_wp2_with fail
      refine HI3.out.mono ?_
      rintro e wa ⟨q, rfl, hq0, hq1, hm, ho⟩
      obtain ⟨q, rfl⟩ : ∃ z : Nat, q = z := ⟨q.toNat, by omega⟩
      have HRa : Hid (RInv bc B w.heap.size w (.slice va L.length vc) L wa) := hx.out.2.step hm ho (by omega)
      have HCE := Lib.hid (cCells_any bc B q wa (by omega) ho)
      have hwa : wr.heap.size ≤ wa.heap.size := hm.size
      clear HI3 hm ho hq0 hq1
      go_wp2_with fail
      refine HCE.out.mono ?_
      rintro e wb ⟨rv, l, rfl, hl2, hrt, hm, ho⟩
      have HRb : Hid (RInv bc B w.heap.size w (.slice va L.length vc) L wb) := HRa.out.step hm ho (by omega)
      have HT : Hid (RowT B wb rv l) := hrt.lo (by omega)
      have hwb : wa.heap.size ≤ wb.heap.size := hm.size
      obtain ⟨ra, rc, hrv⟩ : ∃ a c, rv = .slice a l.length c := by obtain ⟨a, c, e, _⟩ := hrt; exact ⟨a, c, e⟩
      subst hrv
      clear HCE HRa hm ho hrt
      have A1 : Hid (L.length + 1 ≤ maxLen) := by show _ ≤ _; unfold maxLen; omega
      have A2 : Hid ((L.length + 1) * 24 ≤ 140737488355328) := by show _ ≤ _; omega
      by_cases hL0 : L.length = 0
      · obtain rfl : L = [] := List.eq_nil_of_length_eq_zero hL0
        clear hL0
        have A3 : Hid (∀ O : Obj, w.heap.size ≤ (wb.alloc O).heap.size) := fun O => by simp; omega
        have A4 : Hid (∀ t (j : Nat) (u : Value), ([.slice ra l.length rc] : List Value)[j]? = some u → (wb.alloc (.cells #[.slice ra l.length rc] t)).cell? ((⟨wb.heap.size, 0, none⟩ : Addr).add j) = some u) := fun t => one_cell wb _ t
        have A5 : Hid (∀ u ∈ ([.slice ra l.length rc] : List Value), u.oneCell' = true) := by intro u hu; simp only [List.mem_singleton] at hu; subst hu; rfl
        go_wp2_with (at_builtin; refine wpList_append_own _ rfl _ _ 23 rfl w.heap.size 25 i0 (.slice none 0 0) 1 24 Try.underlying23 HI.out HZ0.out HZ1.out HZ2.out rfl (by decide) _ _ _ rfl (HRb.out.own.alloc _) ⟨wb.heap.size, 0, none⟩ 1 1 [.slice ra l.length rc] rfl rfl (A4.out _) A5.out A1.out A2.out (A3.out _) ?_; intro v' w2 hown2 hgr _; have HOWN := Lib.hid hown2; have HGR := Lib.hid hgr; clear hown2 hgr)
        go_roundg (k - 1)
        case measure => omega
        case rel =>
          refine ⟨k - 1, ([] : List E) ++ [(.slice ra l.length rc, l)], Nat.le_refl _, by go_num, ?_, HRb.out.app (.slice ra l.length rc, l) HT.out (Nat.le_refl _) hbl.2 HOWN.out HGR.out⟩
          have := hx.out.1; simp at this ⊢; omega
      · have d0 : decide (0 < L.length) = true := decide_eq_true (by omega)
        have d0' : decide ((0 : Int) < L.length) = true := decide_eq_true (by omega)
        have HBO := Lib.hid (cBool_any bc B wb HRb.out.ok)
        go_wp2_with fail
        refine HBO.out.mono ?_
        rintro e wc ⟨x, rfl, hm, ho⟩
        have HRc : Hid (RInv bc B w.heap.size w (.slice va L.length vc) L wc) := HRb.out.step hm ho (by omega)
        have HTc : Hid (RowT B wc (.slice ra l.length rc) l) := HT.out.mv hm hbl.1
        have hwc : wb.heap.size ≤ wc.heap.size := hm.size
        clear HBO hm ho HRb HT
        cases x
        · skip
          have A3 : Hid (∀ O : Obj, w.heap.size ≤ (wc.alloc O).heap.size) := fun O => by simp; omega
          have A4 : Hid (∀ t (j : Nat) (u : Value), ([.slice ra l.length rc] : List Value)[j]? = some u → (wc.alloc (.cells #[.slice ra l.length rc] t)).cell? ((⟨wc.heap.size, 0, none⟩ : Addr).add j) = some u) := fun t => one_cell wc _ t
          have A5 : Hid (∀ u ∈ ([.slice ra l.length rc] : List Value), u.oneCell' = true) := by intro u hu; simp only [List.mem_singleton] at hu; subst hu; rfl
          go_wp2_with (at_builtin; refine wpList_append_own _ rfl _ _ 23 rfl w.heap.size 25 i0 (.slice none 0 0) 1 24 Try.underlying23 HI.out HZ0.out HZ1.out HZ2.out rfl (by decide) _ _ _ rfl (HRc.out.own.alloc _) ⟨wc.heap.size, 0, none⟩ 1 1 [.slice ra l.length rc] rfl rfl (A4.out _) A5.out A1.out A2.out (A3.out _) ?_; intro v' w2 hown2 hgr _; have HOWN := Lib.hid hown2; have HGR := Lib.hid hgr; clear hown2 hgr)
          go_roundg (k - 1)
          case measure => omega
          case rel =>
            refine ⟨k - 1, L ++ [(.slice ra l.length rc, l)], Nat.le_refl _, by go_num, ?_, HRc.out.app (.slice ra l.length rc, l) HTc.out (Nat.le_refl _) hbl.2 HOWN.out HGR.out⟩
            have := hx.out.1; simp at this ⊢; omega
        · have HIL := Lib.hid (cInt_any bc B L.length wc (by omega) (by omega) HRc.out.ok)
          go_wp2_with fail
          refine HIL.out.mono ?_
          rintro e wd ⟨j, rfl, hj0, hj1, hm, ho⟩
          obtain ⟨j, rfl⟩ : ∃ z : Nat, j = z := ⟨j.toNat, by omega⟩
          have hjl : j < L.length := by omega
          have HRd : Hid (RInv bc B w.heap.size w (.slice va L.length vc) L wd) := HRc.out.step hm ho (by omega)
          have hwd : wc.heap.size ≤ wd.heap.size := hm.size
          clear HIL hm ho HRc HTc hj0 hj1
          have hcellx : ∃ g, va = some ⟨g, 0, none⟩ ∧ wd.cell? ⟨g, j, none⟩ = some (L[j]).1 := by
            rcases HRd.out.own.2 with ⟨hv, hn⟩ | ⟨g, cap, cur, hv, _⟩
            · omega
            · simp only [Value.slice.injEq] at hv
              obtain ⟨rfl, _, rfl⟩ := hv
              refine ⟨g, rfl, ?_⟩
              rw [HRd.out.own.cellAt j (by omega)]
              simp [List.getElem?_eq_getElem hjl]
          obtain ⟨g, rfl, hcell⟩ := hcellx
          have hrx := HRd.out.rows L[j] (List.getElem_mem hjl)
          generalize L[j] = y at hcell hrx
          obtain ⟨yv, yl⟩ := y
          obtain ⟨ya, yc, hyv⟩ : ∃ a c, yv = .slice a yl.length c := by obtain ⟨a, c, e, _⟩ := hrx; exact ⟨a, c, e⟩
          subst hyv
          have HRX := Lib.hid hrx
          clear hrx
          have A3 : Hid (∀ O : Obj, w.heap.size ≤ (wd.alloc O).heap.size) := fun O => by simp; omega
          have A4 : Hid (∀ t (j : Nat) (u : Value), ([.slice ya yl.length yc] : List Value)[j]? = some u → (wd.alloc (.cells #[.slice ya yl.length yc] t)).cell? ((⟨wd.heap.size, 0, none⟩ : Addr).add j) = some u) := fun t => one_cell wd _ t
          have A5 : Hid (∀ u ∈ ([.slice ya yl.length yc] : List Value), u.oneCell' = true) := by intro u hu; simp only [List.mem_singleton] at hu; subst hu; rfl
          go_wp2_with (at_builtin; refine wpList_append_own _ rfl _ _ 23 rfl w.heap.size 25 i0 (.slice none 0 0) 1 24 Try.underlying23 HI.out HZ0.out HZ1.out HZ2.out rfl (by decide) _ _ _ rfl (HRd.out.own.alloc _) ⟨wd.heap.size, 0, none⟩ 1 1 [.slice ya yl.length yc] rfl rfl (A4.out _) A5.out A1.out A2.out (A3.out _) ?_; intro v' w2 hown2 hgr _; have HOWN := Lib.hid hown2; have HGR := Lib.hid hgr; clear hown2 hgr)
          go_roundg (k - 1)
          case measure => omega
          case rel =>
            refine ⟨k - 1, L ++ [(.slice ya yl.length yc, yl)], Nat.le_refl _, by go_num, ?_, HRd.out.app (.slice ya yl.length yc, yl) HRX.out (Nat.le_refl _) hbl.2 HOWN.out HGR.out⟩
            have := hx.out.1; simp at this ⊢; omega
end Go.Proofs.Ytkhbephcmcnfjaa
