/- Walks of the reference's Copy and Same. -/
import Derived.Test.YtkhbephcmcnfjaaRows2
import Derived.Test.YtkhbephcmcnfjaaRRow
import Derived.Test.YtkhbephcmcnfjaaSet
namespace Go.Proofs.Ytkhbephcmcnfjaa
open Go.RowKit Go.Deep

def RCopyPost (w : World) (l : List V) (e : Ending) (w' : World) : Prop := ∃ v, e = .returned v ∧ RowT w.heap.size w' v l ∧ Below w.heap.size w w'

set_option maxHeartbeats 400000 in
theorem rCopy_any (rv : Value) (l : List V) (w : World) (h : RowAt w rv l) : Calls Try.prog 59 #[rv] w (RCopyPost w l) := by
  obtain ⟨a, c, rfl, hn, hi⟩ := h
  have hinfo : (Try.prog.info? 42).map (fun i => (i.zero, i.size, i.bytes)) = some (some (.agg #[.int .i64 0, .int .i64 0, .string ⟨#[]⟩]), 3, 32) := by kernel_rfl
  obtain ⟨i0, hi0, hz0, hz1, hz2⟩ := info_parts hinfo
  cases a with
  | none =>
    have h0 : l.length = 0 := by
      by_cases h : 0 < l.length
      · obtain ⟨b, off, e, _⟩ := hi 0 h; simp at e
      · omega
    obtain rfl : l = [] := List.eq_nil_of_length_eq_zero h0
    go_enter Try.func59, Try.ntmps59
    go_wp2_with fail
    go_ret
    exact ⟨_, rfl, RowT.nil _ _, Below.refl _ _⟩
  | some ad =>
    have HI := Lib.hid hi0
    have HZ0 := Lib.hid hz0
    have HZ1 := Lib.hid hz1
    have HZ2 := Lib.hid hz2
    have hnews : ∀ j u, (cellsOf l)[j]? = some u → w.cell? (ad.add j) = some u := by
      by_cases h0 : l.length = 0
      · obtain rfl : l = [] := List.eq_nil_of_length_eq_zero h0
        intro j u hj; simp [cellsOf] at hj
      · obtain ⟨b, o, e0, hb, _⟩ := hi 0 (by omega)
        simp only [Option.some.injEq] at e0
        subst e0
        refine cellsOf_src w b o l (fun i h => ?_)
        obtain ⟨b', o', e, _, hc⟩ := hi i h
        simp only [Option.some.injEq, Addr.mk.injEq] at e
        obtain ⟨rfl, rfl, _⟩ := e
        exact hc
    have HNW := Lib.hid hnews
    have HL1 := Lib.hid (length_cellsOf l)
    have HO1 := Lib.hid (cellsOf_one l)
    have HFIN : Hid (∀ w' v, w'.ownsRow w.heap.size 42 3 v l.length (cellsOf l) → RowT w.heap.size w' v l) := fun w' v h => rowT_own h hn
    have A1 : Hid (0 + l.length ≤ maxLen) := by show _ ≤ _; unfold maxLen; omega
    have A2 : Hid ((0 + l.length) * 32 ≤ 140737488355328) := by show _ ≤ _; omega
    have HOW : Hid (w.ownsRow w.heap.size 42 3 (.slice none 0 0) 0 []) := ⟨by simp, .inl ⟨rfl, rfl⟩⟩
    clear hi hi0 hz0 hz1 hz2 hnews hinfo
    obtain ⟨cs, hcs⟩ : ∃ cs, cellsOf l = cs := ⟨_, rfl⟩
    rw [hcs] at HNW HL1 HO1 HFIN
    clear hcs
    go_enter Try.func59, Try.ntmps59
    go_wp2_with (at_builtin; refine wpList_append_own _ rfl _ _ 25 rfl w.heap.size 42 i0 (.agg #[.int .i64 0, .int .i64 0, .string ⟨#[]⟩]) 3 32 Try.underlying25 HI.out HZ0.out HZ1.out HZ2.out rfl (by decide) _ _ _ rfl HOW.out ad l.length c cs rfl HL1.out HNW.out HO1.out A1.out A2.out (Nat.le_refl _) ?_; intro v' w2 hown2 hgr _; have HOWN := Lib.hid hown2; have HGR := Lib.hid hgr; clear hown2 hgr)
    go_ret
    refine ⟨_, rfl, HFIN.out _ _ (by simpa using HOWN.out), (Below.refl _ _).grown HGR.out (Nat.le_refl _) (fun k e => ?_)⟩
    have e' : Value.ownBlock (.slice none 0 0) = some k := e
    simp [Value.ownBlock] at e'

set_option maxHeartbeats 400000 in
theorem rSame_any (va vb : Value) (xs ys : List E) (w : World) (ha : RowsB w.heap.size w va xs) (hb : RowsB w.heap.size w vb ys) :
    Calls Try.prog 15 #[va, vb] w fun e w' => e = .returned (.bool (decide (xs.map (·.2) = ys.map (·.2)))) ∧ Gr w w' := by
  obtain ⟨a1, c1, rfl, n1, hx1, hi1⟩ := ha
  obtain ⟨a2, c2, rfl, n2, hx2, hi2⟩ := hb
  have H1 := Lib.hid hx1
  have H2 := Lib.hid hx2
  have I1 := Lib.hid hi1
  have I2 := Lib.hid hi2
  clear hx1 hx2 hi1 hi2
  by_cases hl : xs.length = ys.length
  · obtain ⟨n, hn⟩ : ∃ n, ys.length = n := ⟨_, rfl⟩
    rw [hn] at hl
    rw [hl, hn]
    go_enter Try.func15, Try.ntmps15
    go_wp2_with fail
    go_loopg [13] n (fun g i wr => ∃ k : Nat, k ≤ n ∧ n - k ≤ g ∧ i = .int .i64 k ∧ Hid (Gr w wr) ∧ Hid (∀ j (h1 : j < xs.length) (h2 : j < ys.length), j < k → xs[j].2 = ys[j].2))
    case atStart => exact ⟨0, by omega, by omega, rfl, Gr.refl _, fun j _ _ h => by omega⟩
    case round =>
      obtain ⟨k, hk, hgk, rfl, hg, ht⟩ := hrel
      by_cases hlt : k < n
      · have hkd : decide ((k : Int) < n) = true := decide_eq_true (by omega)
        have hkd' : decide (k < n) = true := decide_eq_true hlt
        have k1 : k < xs.length := by omega
        have k2 : k < ys.length := by omega
        obtain ⟨b1, o1, ea, hb1, hc1⟩ := I1.out k k1
        obtain ⟨b2, o2, eb, hb2, hc2⟩ := I2.out k k2
        subst ea eb
        have hr1 := H1.out _ (List.getElem_mem k1)
        have hr2 := H2.out _ (List.getElem_mem k2)
        have HE1 : Hid (∀ j (h1 : j < xs.length) (h2 : j < ys.length), j = k → xs[j].2 = xs[k].2 ∧ ys[j].2 = ys[k].2) := fun j _ _ e => by subst e; exact ⟨rfl, rfl⟩
        generalize xs[k] = p at hc1 hr1 HE1
        generalize ys[k] = q at hc2 hr2 HE1
        obtain ⟨pv, pl⟩ := p
        obtain ⟨qv, ql⟩ := q
        simp only at hc1 hc2 hr1 hr2 HE1
        obtain ⟨pa, pc, hpv⟩ : ∃ a c, pv = .slice a pl.length c := by obtain ⟨a, c, e, _⟩ := hr1; exact ⟨a, c, e⟩
        obtain ⟨qa, qc, hqv⟩ : ∃ a c, qv = .slice a ql.length c := by obtain ⟨a, c, e, _⟩ := hr2; exact ⟨a, c, e⟩
        subst hpv hqv
        have p1 : wr.cell? ⟨b1, o1 + k, none⟩ = some (.slice pa pl.length pc) := (hg.out.below.cell (p := ⟨b1, o1 + k, none⟩) hb1).trans hc1
        have q1 : wr.cell? ⟨b2, o2 + k, none⟩ = some (.slice qa ql.length qc) := (hg.out.below.cell (p := ⟨b2, o2 + k, none⟩) hb2).trans hc2
        have HP : Hid (∀ W, Below w.heap.size w W → Calls Try.prog 50 #[.slice pa pl.length pc, .slice qa ql.length qc] W fun e w' => e = .returned (.int .i64 (cmpRows pl ql)) ∧ Gr W w') := fun W hb =>
          rCompareRows_any _ _ _ _ W ((hr1.below hb (Nat.le_refl _)).at hb.size) ((hr2.below hb (Nat.le_refl _)).at hb.size)
        have hz : cmpRows pl ql = 0 ↔ pl = ql := cmpRows_zero pl ql
        obtain ⟨c, hc⟩ : ∃ c, cmpRows pl ql = c := ⟨_, rfl⟩
        rw [hc] at HP hz
        have HZ := Lib.hid hz
        have k0 : (0 : Int) ≤ k := by omega
        have HK : Hid (∀ W, Below w.heap.size w W → W.cell? ⟨b1, o1 + k, none⟩ = some (.slice pa pl.length pc) ∧ W.cell? ⟨b2, o2 + k, none⟩ = some (.slice qa ql.length qc)) := fun W hb =>
          ⟨(hb.cell (p := ⟨b1, o1 + k, none⟩) hb1).trans hc1, (hb.cell (p := ⟨b2, o2 + k, none⟩) hb2).trans hc2⟩
        have HG0 : Hid (Gr w wr) := hg
        clear hz hc hc1 hc2 hr1 hr2 hb1 hb2
        go_wp2_with fail
        go_region_held3 (fun W => W.cell? ⟨b1, o1 + k, none⟩ = some (.slice pa pl.length pc) ∧ W.cell? ⟨b2, o2 + k, none⟩ = some (.slice qa ql.length qc))
          (first | exact ⟨r0, s0⟩ | exact ⟨p1, q1⟩)
          (first | (go_at_call 50; refine (HP.out _ (Gr.drew HG0.out).below).mono ?_; rintro e wz ⟨rfl, hgz⟩; have HG : Hid (Gr w wz) := (Gr.drew HG0.out).trans hgz; obtain ⟨r0, s0⟩ := HK.out wz HG.out.below; clear hgz))
        by_cases hc : c = 0
        · subst hc
          have ht' : Hid (∀ j (h1 : j < xs.length) (h2 : j < ys.length), j < k + 1 → xs[j].2 = ys[j].2) := fun j h1 h2 h3 => by
            by_cases e : j = k
            · obtain ⟨e1, e2⟩ := HE1.out j h1 h2 e
              rw [e1, e2]; exact HZ.out.1 rfl
            · exact ht.out j h1 h2 (by omega)
          go_wp2_with fail
          go_roundg (n - (k + 1))
          case measure => omega
          case rel => exact ⟨k + 1, by omega, Nat.le_refl _, by go_num, HG, ht'⟩
        · have hcb : (c != 0) = true := by simpa using hc
          have hd : Hid (decide (xs.map (·.2) = ys.map (·.2)) = false) := decide_eq_false (fun e => hc (HZ.out.2 (by
            obtain ⟨e1, e2⟩ := HE1.out k k1 k2 rfl
            rw [← e1, ← e2]
            have := congrArg (fun l => l[k]?) e
            simpa [k1, k2] using this)))
          go_wp2_with fail
          go_ret
          rw [hd.out]
          exact ⟨rfl, HG.out⟩
      · have hkd : decide ((k : Int) < n) = false := decide_eq_false (by omega)
        have hkd' : decide (k < n) = false := decide_eq_false hlt
        have hd : Hid (decide (xs.map (·.2) = ys.map (·.2)) = true) := decide_eq_true (List.ext_getElem (by simp; omega) (fun i h1 h2 => by
          simp at h1 h2
          simpa using ht.out i h1 h2 (by omega)))
        go_wp2_with fail
        go_ret
        rw [hd.out]
        exact ⟨rfl, hg.out⟩
  · have hb : ((xs.length : Int) != ys.length) = true := by simp; omega
    go_enter Try.func15, Try.ntmps15
    go_wp2_with fail
    go_ret
    have hd : decide (xs.map (·.2) = ys.map (·.2)) = false := decide_eq_false (fun e => hl (by have := congrArg List.length e; simpa using this))
    rw [hd]
    exact ⟨rfl, Gr.refl _⟩


/-- What the loop of copies knows. -/
structure KInv (base : Nat) (w0 : World) (v : Value) (L : List E) (w : World) : Prop where
  own : w.ownsRow base 25 1 v L.length (L.map (·.1))
  rows : ∀ x ∈ L, RowT base w x.1 x.2
  below : Below base w0 w
theorem own_below {base : Nat} {e : TypeId} {size : Nat} {v : Value} {n : Nat} {xs : List Value} {w w' : World} (h : w.ownsRow base e size v n xs) (hm : Below w.heap.size w w') : w'.ownsRow base e size v n xs :=
  h.kept (row := none) ⟨hm.os, hm.tape, hm.output, hm.size, fun b hb' _ => hm.block b hb'⟩ (by
    cases hob : Value.ownBlock v with
    | none => exact .inl rfl
    | some kk => right; intro e; simp at e)
theorem KInv.step {base : Nat} {w0 : World} {v : Value} {L : List E} {w w' : World} (h : KInv base w0 v L w) (hm : Below w.heap.size w w') (hb : base ≤ w.heap.size) : KInv base w0 v L w' :=
  ⟨own_below h.own hm, fun x hx => (h.rows x hx).below hm, h.below.trans (hm.mono hb)⟩
theorem KInv.app {base : Nat} {w0 : World} {v v' : Value} {L : List E} {w w' : World} {O : Obj} (h : KInv base w0 v L w) (x : E) (hx : RowT base w x.1 x.2) (hbase : base ≤ w.heap.size)
    (ho : w'.ownsRow base 25 1 v' (L.length + 1) (L.map (·.1) ++ [x.1])) (hg : (w.alloc O).grownBy w' v.ownBlock) : KInv base w0 v' (L ++ [x]) w' := by
  have hlt := h.own.lt
  have hk : ∀ b cur fr, base ≤ b → w.heap[b]? = some (.cells cur 42 fr) → w'.heap[b]? = w.heap[b]? := by
    intro b cur fr _ hh
    have hbs := (Array.getElem?_eq_some_iff.1 hh).1
    have h1 : (w.alloc O).heap[b]? = w.heap[b]? := Below.heap_alloc w O b hbs
    refine (hg.block b (by simp; omega) (fun e => ?_)).trans h1
    rcases h.own.2 with ⟨hv, _⟩ | ⟨g, cap, cur', hv, _, hgg, _⟩
    · rw [hv] at e; simp [Value.ownBlock] at e
    · rw [hv] at e
      simp only [Value.ownBlock, Option.some.injEq] at e
      rw [← e, hh] at hgg
      simp only [Option.some.injEq, Obj.cells.injEq] at hgg
      exact absurd hgg.2.1 (by decide)
  refine ⟨by simpa using ho, fun y hy => ?_, (h.below.alloc (by omega) O).grown hg (by simp; omega) (fun kk e => (hlt kk e).1)⟩
  rw [List.mem_append] at hy
  rcases hy with hy | hy
  · exact (h.rows y hy).keep hk
  · simp only [List.mem_singleton] at hy
    subst hy
    exact hx.keep hk
/-- What the call owns as a row of rows reads as a list of rows. -/
theorem rowsB_own {base : Nat} {v : Value} {L : List E} {w : World} (ho : w.ownsRow base 25 1 v L.length (L.map (·.1))) (hr : ∀ x ∈ L, RowB w.heap.size w x.1 x.2) (hn : L.length ≤ 4398046511104) : RowsB w.heap.size w v L := by
  have hlt := ho.lt
  rcases ho.2 with ⟨rfl, h0⟩ | ⟨g, cap, cur, rfl, hg, hgg, hnc, hcm, hcs, htake⟩
  · obtain rfl : L = [] := List.eq_nil_of_length_eq_zero h0
    exact ⟨none, 0, rfl, by simp, hr, fun j h => absurd h (by simp)⟩
  · refine ⟨some ⟨g, 0, none⟩, cap, rfl, hn, hr, fun j hj => ⟨g, 0, rfl, (hlt g rfl).2, ?_⟩⟩
    rw [Nat.zero_add, ho.cellAt j (by omega)]
    simp [List.getElem?_eq_getElem hj]
theorem KInv.rowsB {base : Nat} {w0 : World} {v : Value} {L : List E} {w : World} (h : KInv base w0 v L w) (hn : L.length ≤ 4398046511104) : RowsB w.heap.size w v L :=
  rowsB_own h.own (fun x hx => (h.rows x hx).rowB) hn

end Go.Proofs.Ytkhbephcmcnfjaa
