/- Law ValueFresh. -/
import Derived.Test.YthlamhlbeabjdaaLawOrders
namespace Go.Proofs.Ythlamhlbeabjdaa
open Go.RowKit Go.Deep

/-- What the last loop of Set leaves reads as a list of rows. -/
theorem linv_rows {w w' : World} {B c : Nat} {zs : List E} {bs : Nat → Nat} (hI : LInv w B zs zs.length bs w') (hn : zs.length ≤ 4398046511104) (hl : ∀ x ∈ zs, x.2.length ≤ 4398046511104) :
    ∃ ys : List E, ys.map (·.2) = zs.map (·.2) ∧ RowsB w'.heap.size w' (.slice (some ⟨B, 0, none⟩) zs.length c) ys := by
  let ys : List E := (List.range zs.length).map fun j => (.slice (some ⟨bs j, 0, none⟩) (zs.getD j (.slice none 0 0, [])).2.length (zs.getD j (.slice none 0 0, [])).2.length, (zs.getD j (.slice none 0 0, [])).2)
  have hyl : ys.length = zs.length := by simp [ys]
  have hyj : ∀ j (h : j < zs.length), ys[j]'(by omega) = (.slice (some ⟨bs j, 0, none⟩) zs[j].2.length zs[j].2.length, zs[j].2) := fun j h => by simp [ys, List.getElem?_eq_getElem h]
  have hmap : ys.map (·.2) = zs.map (·.2) := by
    apply List.ext_getElem
    · simp [hyl]
    · intro j h1 h2
      simp only [List.length_map] at h1 h2
      simp only [List.getElem_map]
      rw [hyj j h2]
  refine ⟨ys, hmap, some ⟨B, 0, none⟩, c, by rw [hyl], by omega, fun x hx => ?_, fun j hj => ⟨B, 0, rfl, hI.hb, ?_⟩⟩
  · obtain ⟨j, hj, rfl⟩ := List.getElem_of_mem hx
    have hj' : j < zs.length := by omega
    rw [hyj j hj']
    obtain ⟨_, _, d3, d4⟩ := hI.done j hj' hj'
    refine ⟨some ⟨bs j, 0, none⟩, _, rfl, hl zs[j] (List.getElem_mem hj'), fun i hi => ⟨bs j, 0, rfl, d3, ?_⟩⟩
    obtain ⟨e0, e1, e2⟩ := cellsOf_at zs[j].2 i hi
    have hc : ∀ o, w'.cell? ⟨bs j, o, none⟩ = (cellsOf zs[j].2)[o]? := fun o => by
      unfold World.cell?
      rw [d4]
      simp
    unfold CellsV
    rw [Nat.zero_add, hc, hc, hc]
    exact ⟨e0, e1, e2⟩
  · have hj' : j < zs.length := by omega
    rw [Nat.zero_add, (hI.done j hj' hj').1, hyj j hj']

/-- A block of values of a size. -/
def Blk (w : World) (b n : Nat) : Prop := ∃ arr : Array Value, w.heap[b]? = some (.cells arr 24 (0, 0)) ∧ arr.size = n
theorem Blk.setCell {w : World} {b n : Nat} (h : Blk w b n) (b' o : Nat) (v : Value) : Blk (w.setCell ⟨b', o, none⟩ v) b n := by
  obtain ⟨arr, hh, hs⟩ := h
  by_cases e : b = b'
  · subst e
    refine ⟨arr.setIfInBounds o v, ?_, by simpa using hs⟩
    unfold World.setCell
    simp [Array.getElem?_modify, hh]
  · exact ⟨arr, by rw [Below.heap_setCell _ _ _ _ e]; exact hh, hs⟩
theorem Blk.cell {w : World} {b n : Nat} (h : Blk w b n) (o : Nat) (ho : o < n) : ∃ c, w.cell? ⟨b, o, none⟩ = some c ∧ w.frozen? ⟨b, o, none⟩ = false := by
  obtain ⟨arr, hh, hs⟩ := h
  refine ⟨arr[o]'(by omega), ?_, ?_⟩
  · unfold World.cell?
    rw [hh]
    simp [Array.getElem?_eq_getElem (show o < arr.size by omega)]
  · unfold World.frozen?
    rw [hh]
    simp

/-- What the loops that overwrite the relation know. -/
structure FInv (B base : Nat) (zs : List E) (bs : Nat → Nat) (k4 : Value) (K4 : List E) (wa wr : World) : Prop where
  below : Below B wa wr
  hB : B < wr.heap.size
  cell : ∀ j (_ : j < zs.length), wr.cell? ⟨B, j, none⟩ = some (.slice (some ⟨bs j, 0, none⟩) zs[j].2.length zs[j].2.length)
  blk : ∀ j (_ : j < zs.length), Blk wr (bs j) (zs[j].2.length * 3)
  own : wr.ownsRow base 38 1 k4 K4.length (K4.map (·.1))
  rows : ∀ x ∈ K4, RowT base wr x.1 x.2
theorem FInv.set {B base : Nat} {zs : List E} {bs : Nat → Nat} {k4 : Value} {K4 : List E} {wa wr : World} (h : FInv B base zs bs k4 K4 wa wr) {b : Nat} (h1 : B < b) (h2 : b < base) (o : Nat) (v : Value) : FInv B base zs bs k4 K4 wa (wr.setCell ⟨b, o, none⟩ v) := by
  have hm : Mv b wr (wr.setCell ⟨b, o, none⟩ v) := (⟨rfl, rfl, rfl, Nat.le_refl _, fun _ _ _ => rfl⟩ : Mv b wr wr).setCell o v
  refine ⟨h.below.setCell (show B ≤ b from Nat.le_of_lt h1) v, by simp; exact h.hB, fun j hj => ?_, fun j hj => (h.blk j hj).setCell _ _ _, own_mv h.own hm h2, fun x hx => (h.rows x hx).mv hm h2⟩
  rw [World.cell?_setCell_other _ _ _ _ (by simp <;> omega)]
  exact h.cell j hj

set_option maxHeartbeats 2000000 in
theorem fresh_walk (cv : Value) (cn : Nat) (w : World) (hcv : BytesAt w cv cn) : Calls Try.prog 10 #[cv] w fun e w' => e = .returned (.bool true) ∧ Below w.heap.size w w' := by
  have hinfo : (Try.prog.info? 38).map (fun i => (i.zero, i.size, i.bytes)) = some (some (.slice none 0 0), 1, 24) := by kernel_rfl
  obtain ⟨i0, hi, hz0, hz1, hz2⟩ := info_parts hinfo
  have HI := Lib.hid hi
  have HZ0 := Lib.hid hz0
  have HZ1 := Lib.hid hz1
  have HZ2 := Lib.hid hz2
  have HN := Lib.hid (cNew_any cv cn w hcv)
  obtain ⟨qa, qc, rfl, _⟩ := hcv
  have HB : Hid (∀ W, Calls Try.prog 13 #[] W fun e w' => e = .returned (.bool true) ∧ Below W.heap.size W w') := begun_any
  clear hi hz0 hz1 hz2 hinfo
  go_enter Try.func10, Try.ntmps10
  go_wp2_with fail
  refine HN.out.mono ?_
  rintro e w1 ⟨bc, rfl, hb1, hbc, hok⟩
  have hs1 := hb1.size
  have HR := Lib.hid (lRows_any bc w1.heap.size w1 hok)
  have HB1 := Lib.hid hb1
  have hbl := hok.lt
  clear hok HN hb1
  go_wp2_with fail
  refine HR.out.mono ?_
  rintro e w2 ⟨v, L, rfl, hL6, hinv⟩
  obtain ⟨va, vc, hv5⟩ := own_slice hinv.own
  subst hv5
  have HINV := Lib.hid hinv
  have hs2 : w1.heap.size ≤ w2.heap.size := hinv.mv.size
  clear HR hinv
  have M1 : Hid (∀ u ∈ ([.slice (some ⟨w2.heap.size, 0, none⟩) 1 1] : List Value), u.oneCell' = true) := by intro u hu; simp only [List.mem_singleton] at hu; subst hu; rfl
  have M2 : Hid (L.length + 1 ≤ maxLen) := by show _ ≤ _; unfold maxLen; omega
  have M3 : Hid ((L.length + 1) * 24 ≤ 140737488355328) := by show _ ≤ _; omega
  have M4 : Hid (∀ O O' : Obj, w1.heap.size ≤ ((w2.alloc O).alloc O').heap.size) := fun O O' => by simp; omega
  have M5 : Hid (∀ (O : Obj) (t : TypeId) (j : Nat) (u : Value), ([.slice (some ⟨w2.heap.size, 0, none⟩) 1 1] : List Value)[j]? = some u → ((w2.alloc O).alloc (.cells #[.slice (some ⟨w2.heap.size, 0, none⟩) 1 1] t)).cell? ((⟨w2.heap.size + 1, 0, none⟩ : Addr).add j) = some u) := fun O t j u hj => by
    have := one_cell (w2.alloc O) _ t j u hj
    simpa using this
  go_wp2_with (at_builtin; refine wpList_append_own _ rfl _ _ 39 rfl w1.heap.size 38 i0 (.slice none 0 0) 1 24 Try.underlying39 HI.out HZ0.out HZ1.out HZ2.out rfl (by decide) _ _ _ rfl ((HINV.out.own.alloc _).alloc _) ⟨w2.heap.size + 1, 0, none⟩ 1 1 [.slice (some ⟨w2.heap.size, 0, none⟩) 1 1] rfl rfl (M5.out _ _) M1.out M2.out M3.out (M4.out _ _) ?_; intro v3 w5 hown2 hgr _; have HOWN := Lib.hid hown2; have HGR := Lib.hid hgr; clear hown2 hgr)
  obtain ⟨w2b, hw2b⟩ : ∃ w2b, w2b = (w2.alloc (.cells #[.int .i64 4, .int .i64 7, .string ⟨#[]⟩] 24)).alloc (.cells #[.slice (some ⟨w2.heap.size, 0, none⟩) 1 1] 38) := ⟨_, rfl⟩
  have HGR2 : Hid (w2b.grownBy w5 (Value.slice va L.length vc).ownBlock) := by rw [hw2b]; exact HGR.out
  have hb2b : Below w2.heap.size w2 w2b := by rw [hw2b]; exact ((Below.refl _ _).alloc (Nat.le_refl _) _).alloc (by simp) _
  have ho2b : w2b.ownsRow w1.heap.size 38 1 (.slice va L.length vc) L.length (L.map (·.1)) := own_below HINV.out.own hb2b
  have hs2b : w2b.heap.size = w2.heap.size + 2 := by rw [hw2b]; simp
  have hnew : w2b.heap[w2.heap.size]? = some (.cells #[.int .i64 4, .int .i64 7, .string ⟨#[]⟩] 24 (0, 0)) := by
    rw [hw2b, Below.heap_alloc _ _ _ (by simp)]
    show (w2.heap.push _)[w2.heap.size]? = _
    simp
  have hnrow : RowT w1.heap.size w2b (.slice (some ⟨w2.heap.size, 0, none⟩) 1 1) [⟨4, 7, ⟨#[]⟩⟩] := by
    refine ⟨some ⟨w2.heap.size, 0, none⟩, 1, rfl, by simp, fun i hi => ⟨w2.heap.size, 0, _, (0, 0), rfl, hs2, hnew, ?_⟩⟩
    have hi0 : i = 0 := by simp at hi; omega
    subst hi0
    unfold CellsV World.cell?
    rw [hnew]
    exact ⟨rfl, rfl, rfl⟩
  obtain ⟨LL, hLL⟩ : ∃ LL : List E, LL = L ++ [(.slice (some ⟨w2.heap.size, 0, none⟩) 1 1, [⟨4, 7, ⟨#[]⟩⟩])] := ⟨_, rfl⟩
  have hll : LL.length = L.length + 1 := by rw [hLL]; simp
  have hkr := ho2b.lt
  have hs5 : w2b.heap.size ≤ w5.heap.size := HGR2.out.size
  have BW : Hid (Below w.heap.size w w5) :=
    HB1.out.trans ((HINV.out.mv.below hbc hs1).trans ((hb2b.mono (by omega)).trans ((Below.refl _ _).grown HGR2.out (by omega) (fun k e => by have := (hkr k e).1; omega))))
  have hrl : RowsB w5.heap.size w5 v3 LL := by
    refine rowsB_own (base := w1.heap.size) ?_ (fun x hx => ?_) (by omega)
    · have := HOWN.out
      rw [hll, hLL]
      simpa using this
    · rw [hLL, List.mem_append] at hx
      rcases hx with hx | hx
      · exact (rowT_grown ((HINV.out.rows x hx).below hb2b) ho2b HGR2.out).rowB
      · simp only [List.mem_singleton] at hx
        subst hx
        exact (rowT_grown hnrow ho2b HGR2.out).rowB
  have hl7 : LL.length ≤ 7 := by omega
  have HRL := Lib.hid hrl
  have hws5 : w.heap.size ≤ w5.heap.size := BW.out.size
  have HC := Lib.hid (lCopies_any v3 LL w5 hrl)
  clear M1 M2 M3 M4 M5 HINV HOWN HGR HGR2 hb2b ho2b hs2b hnew hnrow hkr hs5 hrl hw2b hLL hll HB1 hbl hL6 hs2 hs1 hbc
  go_wp2_with fail
  refine HC.out.mono ?_
  rintro e w6 ⟨k1, K1, rfl, hK1, hk1⟩
  have hs6 : w5.heap.size ≤ w6.heap.size := hk1.below.size
  have hK1l : K1.length = LL.length := by have := congrArg List.length hK1; simpa using this
  have HB6 := Lib.hid hk1.below
  have HE1 := Lib.hid hK1
  have HC2 := Lib.hid (lCopies_any k1 K1 w6 (hk1.rowsB (by omega)))
  clear HC hK1 hk1
  go_wp2_with fail
  refine HC2.out.mono ?_
  rintro e w7 ⟨k2, K2, rfl, hK2, hk2⟩
  have hs7 : w6.heap.size ≤ w7.heap.size := hk2.below.size
  have hK2l : K2.length = LL.length := by have := congrArg List.length hK2; simp at this; omega
  have HE2 : Hid (K2.map (·.2) = LL.map (·.2)) := by
    show _ = _
    rw [hK2, HE1.out, List.reverse_reverse]
  have HB7 : Hid (Below w5.heap.size w5 w7) := HB6.out.trans (hk2.below.mono hs6)
  have HWAS := Lib.hid (hk2.rowsB (by omega))
  have HL7 : Hid (RowsB w7.heap.size w7 v3 LL) := (HRL.out.below HB7.out (Nat.le_refl _)).mono HB7.out.size
  have HS := Lib.hid (vSet_any v3 LL w7 HL7.out)
  clear HC2 hK2 hk2 HE1 HB6 HRL
  go_wp2_with fail
  refine HS.out.mono ?_
  rintro e w8 ⟨zs, bs, rfl, hz, hrel, hmem, hI⟩
  have hs8 : w7.heap.size < w8.heap.size := hI.hb
  have HI8 := Lib.hid hI
  have HREL := Lib.hid hrel
  have HMEM := Lib.hid hmem
  have hzl : Hid (∀ x ∈ zs, x.2.length ≤ 4398046511104) := fun x hx => by
    obtain ⟨y, hy, e⟩ := List.mem_map.1 ((hmem x.2).1 (List.mem_map.2 ⟨x, hx, rfl⟩))
    obtain ⟨_, _, _, _, hr, _⟩ := HL7.out
    obtain ⟨_, _, _, hh, _⟩ := hr y hy
    rw [← e]; exact hh
  obtain ⟨ys, hys, hyr⟩ := linv_rows (c := LL.length) hI (by omega) hzl.out
  have hyl : ys.length = zs.length := by have := congrArg List.length hys; simpa using this
  have HYS := Lib.hid hys
  have HC := Lib.hid (lCopies_any _ ys w8 hyr)
  clear HS hrel hmem hI hys hyr
  go_wp2_with fail
  refine HC.out.mono ?_
  rintro e w9 ⟨k3, K3, rfl, hK3, hk3⟩
  have hs9 : w8.heap.size ≤ w9.heap.size := hk3.below.size
  have hK3l : K3.length = zs.length := by have := congrArg List.length hK3; simp at this; omega
  have HB9 := Lib.hid hk3.below
  have HE3 := Lib.hid hK3
  have HC2 := Lib.hid (lCopies_any k3 K3 w9 (hk3.rowsB (by omega)))
  clear HC hK3 hk3
  go_wp2_with fail
  refine HC2.out.mono ?_
  rintro e w10 ⟨k4, K4, rfl, hK4, hk4⟩
  have hs10 : w9.heap.size ≤ w10.heap.size := hk4.below.size
  have hK4l : K4.length = zs.length := by have := congrArg List.length hK4; simp at this; omega
  have HE4 : Hid (K4.map (·.2) = zs.map (·.2)) := by
    show _ = _
    rw [hK4, HE3.out, List.reverse_reverse, HYS.out]
  have HW4 := Lib.hid hk4
  have HB10 : Hid (Below w8.heap.size w8 w10) := HB9.out.trans (hk4.below.mono hs9)
  clear HC2 hK4 hk4 HE3 HB9 HYS
  have HBS : Hid (∀ j, j < zs.length → w7.heap.size < bs j ∧ bs j < w9.heap.size) := fun j hj => by
    obtain ⟨_, d2, d3, _⟩ := HI8.out.done j hj hj
    omega
  have HZL : Hid (∀ j (_ : j < zs.length), zs[j].2.length ≤ 4398046511104) := fun j hj => hzl.out _ (List.getElem_mem hj)
  have HF0 : Hid (FInv w7.heap.size w9.heap.size zs bs k4 K4 w8 w10) := by
    refine ⟨HB10.out.mono (by omega), by omega, fun j hj => ?_, fun j hj => ?_, HW4.out.own, HW4.out.rows⟩
    · rw [HB10.out.cell (p := ⟨w7.heap.size, j, none⟩) hs8]
      exact (HI8.out.done j hj hj).1
    · obtain ⟨_, _, d3, d4⟩ := HI8.out.done j hj hj
      exact ⟨_, (HB10.out.block _ d3).trans d4, by simp [length_cellsOf]⟩
  have HB78 : Hid (Below w7.heap.size w7 w8) := HI8.out.below
  have hzn : zs.length ≤ 7 := by omega
  clear HI8 HW4 HB10 hyl hK3l hzl hK1l
  obtain ⟨n, hn⟩ : ∃ n, zs.length = n := ⟨_, rfl⟩
  rw [hn]
  go_wp2_with fail
  go_loopg [26] n (fun g i wr => ∃ k : Nat, k ≤ n ∧ n - k ≤ g ∧ i = .int .i64 k ∧ Hid (FInv w7.heap.size w9.heap.size zs bs k4 K4 w8 wr))
  case atStart => exact ⟨0, by omega, by omega, rfl, HF0⟩
  case round =>
    clear HF0
    obtain ⟨k, hk, hgk, rfl, hf⟩ := hrel
    by_cases hlt : k < n
    · have hkd : decide ((k : Int) < n) = true := decide_eq_true (by omega)
      have hkd' : decide (k < n) = true := decide_eq_true hlt
      have k0 : (0 : Int) ≤ k := by omega
      have hki : (k : Int) < n := by omega
      have kz : k < zs.length := by omega
      obtain ⟨q1, q2⟩ := HBS.out k kz
      have HC1 : Hid (∀ W, FInv w7.heap.size w9.heap.size zs bs k4 K4 w8 W → W.cell? ⟨w7.heap.size, k, none⟩ = some (.slice (some ⟨bs k, 0, none⟩) zs[k].2.length zs[k].2.length) ∧ Blk W (bs k) (zs[k].2.length * 3)) := fun W h => ⟨h.cell k kz, h.blk k kz⟩
      have hml := HZL.out k kz
      generalize zs[k].2.length = m at HC1 hml
      generalize bs k = b at HC1 q1 q2
      obtain ⟨p1, _⟩ := HC1.out wr hf.out
      have hkn : n ≤ LL.length := by omega
      go_wp2_with fail
      clear p1
      go_loopg [34] m (fun g1 i wr => ∃ j : Nat, j ≤ m ∧ m - j ≤ g1 ∧ i = .int .i64 j ∧ Hid (FInv w7.heap.size w9.heap.size zs bs k4 K4 w8 wr))
      case atStart => exact ⟨0, by omega, by omega, rfl, hf⟩
      case round =>
        clear hf
        obtain ⟨j, hj, hgj, rfl, hf⟩ := hrel
        by_cases hlt2 : j < m
        · have hjd : decide ((j : Int) < m) = true := decide_eq_true (by omega)
          have hjd' : decide (j < m) = true := decide_eq_true hlt2
          have j0 : (0 : Int) ≤ j := by omega
          have hjm : (j : Int) < m := by omega
          obtain ⟨p1, hbk⟩ := HC1.out wr hf.out
          obtain ⟨x0, c0, f0⟩ := hbk.cell (j * 3) (by omega)
          obtain ⟨x1, c1, f1⟩ := hbk.cell (j * 3 + 1) (by omega)
          obtain ⟨x2, c2, f2⟩ := hbk.cell (j * 3 + 2) (by omega)
          have HF : Hid (∀ a b' c, FInv w7.heap.size w9.heap.size zs bs k4 K4 w8 (((wr.setCell ⟨b, j * 3, none⟩ a).setCell ⟨b, j * 3 + 1, none⟩ b').setCell ⟨b, j * 3 + 2, none⟩ c)) := fun a b' c => ((hf.out.set q1 q2 _ _).set q1 q2 _ _).set q1 q2 _ _
          clear hbk
          go_wp2_with fail
          go_roundg (m - (j + 1))
          case measure => omega
          case rel => exact ⟨j + 1, by omega, Nat.le_refl _, by go_num, HF.out _ _ _⟩
        · have hjd : decide ((j : Int) < m) = false := decide_eq_false (by omega)
          have hjd' : decide (j < m) = false := decide_eq_false hlt2
          go_wp2_with fail
          go_roundg (n - (k + 1))
          case measure => omega
          case rel => exact ⟨k + 1, by omega, Nat.le_refl _, by go_num, hf⟩
    · have hkd : decide ((k : Int) < n) = false := decide_eq_false (by omega)
      have hkd' : decide (k < n) = false := decide_eq_false hlt
      have HB7r : Hid (Below w7.heap.size w7 wr) := HB78.out.trans hf.out.below
      have HWr : Hid (RowsB wr.heap.size wr k4 K4) := rowsB_own hf.out.own (fun x hx => (hf.out.rows x hx).rowB) (by omega)
      have hsr := HB7r.out.size
      clear hf HB78
      go_wp2_with fail
      refine (HB.out wr).mono ?_
      rintro e wb ⟨rfl, hbb⟩
      have HB7b : Hid (Below w7.heap.size w7 wb) := HB7r.out.trans (hbb.mono hsr)
      have HWb : Hid (RowsB wb.heap.size wb k4 K4) := (HWr.out.below hbb (Nat.le_refl _)).mono hbb.size
      have hsb := HB7b.out.size
      have HSM := Lib.hid (rSame_any v3 k2 LL K2 wb ((HL7.out.below HB7b.out (Nat.le_refl _)).mono hsb) ((HWAS.out.below HB7b.out (Nat.le_refl _)).mono hsb))
      have HD : Hid (decide (LL.map (·.2) = K2.map (·.2)) = true) := decide_eq_true HE2.out.symm
      clear hbb HWr HB7r
      go_wp2_with fail
      refine HSM.out.mono ?_
      rintro e wc ⟨rfl, hgc⟩
      rw [HD.out]
      have HB7c : Hid (Below w7.heap.size w7 wc) := HB7b.out.trans (hgc.below.mono hsb)
      have HWc : Hid (RowsB wc.heap.size wc k4 K4) := (HWb.out.below hgc.below (Nat.le_refl _)).mono hgc.below.size
      have hsc := HB7c.out.size
      have HS := Lib.hid (setOut v3 LL wc ((HL7.out.below HB7c.out (Nat.le_refl _)).mono hsc))
      clear HSM HD hgc HWb HB7b
      go_wp2_with fail
      refine HS.out.mono ?_
      rintro e wd ⟨tv, ts, rfl, hrs, hrel, hmem, _, hbd⟩
      have HB7d : Hid (Below w7.heap.size w7 wd) := HB7c.out.trans (hbd.mono hsc)
      have hsd := HB7d.out.size
      have HSM := Lib.hid (rSame_any tv k4 ts K4 wd hrs ((HWc.out.below hbd (Nat.le_refl _)).mono hbd.size))
      have HD : Hid (decide (ts.map (·.2) = K4.map (·.2)) = true) := decide_eq_true (by
        rw [HE4.out]
        exact rel_unique _ _ hrel HREL.out (fun r => (hmem r).trans (HMEM.out r).symm))
      clear HS hrs hrel hmem hbd HWc HB7c
      go_wp2_with fail
      refine HSM.out.mono ?_
      rintro e wf ⟨rfl, hgf⟩
      rw [HD.out]
      have HB7f : Hid (Below w7.heap.size w7 wf) := HB7d.out.trans (hgf.below.mono hsd)
      clear HSM HD hgf HB7d
      go_wp2_with fail
      go_ret
      exact ⟨rfl, BW.out.trans ((HB7.out.trans (HB7f.out.mono (by omega))).mono hws5)⟩
end Go.Proofs.Ythlamhlbeabjdaa
