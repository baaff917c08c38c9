
/- Schemas: kindsOf, tableAt, keyLength, Kinds, KeyKinds, Find of the program. -/
import Derived.Test.YtjcbmeannhafjaaSlR

import Derived.Test.YtjcbmeannhafjaaPdMath

import Derived.Laws.OwnMore

import Derived.Test.YtjcbmeannhafjaaIvLeaf

import Derived.Test.YtjcbmeannhafjaaPdOper

import Derived.Test.YtjcbmeannhafjaaPdBindMem

namespace Go.Proofs.Ytjcbmeannhafjaa

open Go.RowKit Go.Deep

/-- A new list of ints is returned. -/
def KndPost (l : List Int) (w : World) (e : Ending) (w' : World) : Prop := ∃ v, e = .returned v ∧ IntsG w.heap.size w' v l ∧ Below w.heap.size w w'
/-- The loop that copies kinds: what it owns. -/
def KdInv (w : World) (cs : List CL) (n k : Nat) (wr : World) : Prop :=
  wr.ownsRow w.heap.size 3 1 (.slice (some ⟨w.heap.size, 0, none⟩) n n) n ((cs.take k).map (fun c => Value.int .i64 c.k) ++ List.replicate (n - k) (.int .i64 0)) ∧ Below w.heap.size w wr
theorem KdInv.step {w wr : World} {cs : List CL} {n k : Nat} (h : KdInv w cs n k wr) (hn : cs.length = n) (hk : k < cs.length) (O : Obj) : KdInv w cs n (k + 1) ((wr.setCell ⟨w.heap.size, k, none⟩ (.int .i64 cs[k].k)).alloc O) := by
  obtain ⟨ho, hb⟩ := h
  have h2 := (ho.stored k (.int .i64 cs[k].k)).1.alloc O
  have hs : w.heap.size ≤ wr.heap.size := hb.size
  refine ⟨?_, (hb.setCell (Nat.le_refl _) _).alloc (by simpa using hs) O⟩
  have e : (((cs.take k).map (fun c => Value.int .i64 c.k)) ++ List.replicate (n - k) (Value.int .i64 0)).set k (.int .i64 cs[k].k) = (cs.take (k + 1)).map (fun c => Value.int .i64 c.k) ++ List.replicate (n - (k + 1)) (.int .i64 0) := by
    have hl : ((cs.take k).map (fun c => Value.int .i64 c.k)).length = k := by simp; omega
    rw [List.set_append_right _ _ (by omega), hl, Nat.sub_self]
    have hr : n - k = (n - (k + 1)) + 1 := by omega
    rw [hr, List.replicate_succ, List.set_cons_zero, List.take_succ_eq_append_getElem hk, List.map_append, List.append_assoc]
    rfl
  rw [e] at h2
  exact h2
theorem KdInv.done {w wr : World} {cs : List CL} {n : Nat} (h : KdInv w cs n n wr) (hn : cs.length = n) (hf : n ≤ 17592186044416) : IntsG w.heap.size wr (.slice (some ⟨w.heap.size, 0, none⟩) n n) (cs.map CL.k) := by
  have ho := h.1
  have e : (cs.take n).map (fun c => Value.int .i64 c.k) ++ List.replicate (n - n) (.int .i64 0) = iC (cs.map CL.k) := by
    rw [Nat.sub_self, List.replicate_zero, List.append_nil, List.take_of_length_le (by omega)]
    unfold iC; simp
  rw [e] at ho
  have hl : (cs.map CL.k).length = n := by simpa using hn
  have := intsG_own (s := cs.map CL.k) (by rw [hl]; exact ho) (by omega)
  exact this

set_option maxHeartbeats 1000000 in
theorem sKindsOf_any {P : Nat → Prop} (v : Value) (cs : List CL) (w : World) (h : SlR colK P w v cs) : Calls Try.prog 43 #[v] w (KndPost (cs.map CL.k) w) := by
  obtain ⟨a, c, rfl, hf⟩ := h.shape
  have hfew := hf.few
  obtain ⟨n, hn⟩ : ∃ n, cs.length = n := ⟨_, rfl⟩
  rw [hn] at h hfew ⊢
  have hinfo : (Try.prog.info? 3).map (fun i => (i.zero, i.size, i.bytes)) = some (some (.int .i64 0), 1, 8) := by kernel_rfl
  have hmk := run_make_row' (P := Try.prog) 48 3 (.int .i64 0) 8 Try.underlying48 hinfo rfl .i64 .i64 n (by omega) (by omega) w
  obtain ⟨W1, hW1⟩ : ∃ W1, w.alloc (.cells (madeCells #[.int .i64 0] n) 3) = W1 := ⟨_, rfl⟩
  have HI : Hid (KdInv w cs n 0 W1) := by
    rw [← hW1]
    have e : (madeCells #[Value.int .i64 0] n).toList = List.replicate n (.int .i64 0) := toList_madeCells_one _ _
    refine ⟨?_, (Below.refl _ _).alloc (Nat.le_refl _) _⟩
    have := World.ownsRow_lit w (base := w.heap.size) (e := 3) (size := 1) (madeCells #[Value.int .i64 0] n) n (Nat.le_refl _) (by unfold maxLen; omega) (by simp [size_madeCells])
    rw [e] at this
    simpa using this
  rw [hW1] at hmk
  have HN := Lib.hid hn
  have HF := Lib.hid hfew
  have H := Lib.hid h
  clear hW1 hinfo h hf hn
  go_enter Try.func43, Try.ntmps43
  go_wp2_with fail
  clear hmk
  go_loopw [11] (fun i wr => ∃ k : Nat, k ≤ n ∧ i = .int .i64 k ∧ Hid (KdInv w cs n k wr)) (fun i _ => n - (intOf i).toNat)
  case atStart => exact ⟨0, by omega, rfl, HI⟩
  case round =>
    obtain ⟨k, hk, rfl, HX⟩ := hrel
    clear HI
    by_cases hlt : k < n
    · have hlt' : (k : Int) < n := by omega
      have hkc : k < cs.length := by have := HN.out; omega
      obtain ⟨b, off, rfl, -, hb, c0, c1⟩ := col_get (H.out.below HX.out.2) hkc
      have hfz := HX.out.1.frozenAt k
      obtain ⟨x2, hcl⟩ : ∃ x, wr.cell? ⟨w.heap.size, k, none⟩ = some x := by
        have h1 := HX.out.1.1
        have h2 := HX.out.1.cellAt k (by omega)
        rw [List.getElem?_eq_getElem (by omega)] at h2
        exact ⟨_, h2⟩
      have hg0 : (⟨w.heap.size, k, none⟩ : Addr).block < wr.heap.size := World.block_lt_of_cell? _ _ hcl
      have hg : w.heap.size < wr.heap.size := hg0
      clear hg0
      have HS : Hid (∀ O, KdInv w cs n (k + 1) ((wr.setCell ⟨w.heap.size, k, none⟩ (.int .i64 cs[k].k)).alloc O)) := fun O => HX.out.step HN.out hkc O
      generalize cs[k].s = x0 at *
      generalize cs[k].k = x1 at *
      go_wp2_with fail
      go_roundw
      case rel => exact ⟨k + 1, by omega, by go_num, HS.out _⟩
      case measure => simp [intOf]; omega
    · have hkn : k = n := by omega
      subst hkn
      go_wp2_with fail
      go_ret
      exact ⟨_, rfl, HX.out.done HN.out HF.out, HX.out.2⟩
end Go.Proofs.Ytjcbmeannhafjaa

/- Schemas: tableAt, keyLength, Kinds, KeyKinds of the program. -/
namespace Go.Proofs.Ytjcbmeannhafjaa

open Go.RowKit Go.Deep

/-- A table is returned, and whether there is one. -/
def TabPost (P : Nat → Prop) (s : SC) (i : Int) (w : World) (e : Ending) (w' : World) : Prop :=
  ∃ ca cc ra rc pa pc, e = .returned (.tuple #[tbV (tbAt s i) (.slice ca (tbAt s i).cs.length cc) (.slice ra (tbAt s i).rs.length rc) pa pc, .bool (inT s i)]) ∧ TbP P w' (.slice ca (tbAt s i).cs.length cc) (.slice ra (tbAt s i).rs.length rc) pa pc (tbAt s i) ∧ Below w.heap.size w w'
theorem tabPost_mk {P : Nat → Prop} {s : SC} {i : Int} {w w' : World} {cv rv : Value} {pa : Option Addr} {pc : Nat} {e : Ending} (he : e = .returned (.tuple #[tbV (tbAt s i) cv rv pa pc, .bool (inT s i)])) (h : TbP P w' cv rv pa pc (tbAt s i)) (hb : Below w.heap.size w w') : TabPost P s i w e w' := by
  obtain ⟨ca, cc, rfl, _⟩ := h.cols.shape
  obtain ⟨ra, rc, rfl, _⟩ := h.refs.shape
  exact ⟨ca, cc, ra, rc, pa, pc, he, h, hb⟩

set_option maxHeartbeats 1000000 in
theorem sTableAt_any {P : Nat → Prop} (v : Value) (s : SC) (i : Int) (w : World) (h : Sc P w v s) : Calls Try.prog 42 #[v, .int .i64 i] w (TabPost P s i w) := by
  obtain ⟨tv, rfl, hs⟩ := h
  obtain ⟨a, c, rfl, hf⟩ := hs.shape
  have hfew := hf.few
  cases hin : inT s i with
  | true =>
    obtain ⟨k, rfl, hk⟩ := inT_true hin
    obtain ⟨b, off, rfl, -, hb, ca, cc, ra, rc, pa, pc, c0, c1, c2, c3, c4, ht⟩ := tab_get hs hk
    have HP : Hid (∀ e w', e = .returned (.tuple #[tbV s.ts[k] (.slice ca s.ts[k].cs.length cc) (.slice ra s.ts[k].rs.length rc) pa pc, .bool true]) → Below w.heap.size w w' → TabPost P s k w e w') := fun e w' he hb => by
      rw [← tbAt_in hk] at he ht
      rw [← hin] at he
      exact tabPost_mk he (ht.below hb) hb
    clear ht hs hf hin
    unfold tbV at HP
    generalize s.ts[k].s = x0 at *
    generalize s.ts[k].cs.length = x1 at *
    generalize s.ts[k].key = x2 at *
    generalize s.ts[k].rs.length = x3 at *
    generalize s.ts[k].ck.length = x4 at *
    generalize s.ts.length = n at *
    have d1 : decide ((k : Int) < 0) = false := by simp
    have d2 : decide ((n : Int) ≤ k) = false := by simp; omega
    have hlt' : (k : Int) < n := by omega
    go_enter Try.func42, Try.ntmps42
    go_wp2_with fail
    refine bodyPost_ret (v := .tuple #[.agg #[.string x0, .slice ca x1 cc, .int .i64 x2, .slice ra x3 rc, .slice pa x4 pc], .bool true]) (by simp [results, Try.results42, go_sem, *]) rfl ?_
    exact HP.out _ _ rfl (by (repeat (first | exact Below.refl _ _ | assumption | refine Below.drew ?_ | refine Below.setCell ?_ (by first | omega | (simp only [World.size_alloc]; omega) | (simp; try omega)) _ | refine Below.alloc ?_ (by first | omega | (simp only [World.size_alloc]; omega) | (simp; try omega)) _)))
  | false =>
    have HP : Hid (∀ e w', e = .returned (.tuple #[.agg #[.string ⟨#[]⟩, .slice none 0 0, .int .i64 0, .slice none 0 0, .slice none 0 0], .bool false]) → Below w.heap.size w w' → TabPost P s i w e w') := fun e w' he hb =>
      tabPost_mk (cv := .slice none 0 0) (rv := .slice none 0 0) (pa := none) (pc := 0) (by rw [tbAt_out hin, hin]; exact he) (by rw [tbAt_out hin]; exact TbP.zero) hb
    have hcs : i < 0 ∨ (s.ts.length : Int) ≤ i := by unfold inT at hin; simp at hin; omega
    clear hs hf hin
    generalize s.ts.length = n at *
    by_cases h0 : i < 0
    · have d1 : decide (i < 0) = true := by simpa using h0
      clear hcs
      go_enter Try.func42, Try.ntmps42
      go_wp2_with fail
      refine bodyPost_ret (v := .tuple #[.agg #[.string ⟨#[]⟩, .slice none 0 0, .int .i64 0, .slice none 0 0, .slice none 0 0], .bool false]) (by simp [results, Try.results42, go_sem, *]) rfl ?_
      exact HP.out _ _ rfl (by (repeat (first | exact Below.refl _ _ | assumption | refine Below.drew ?_ | refine Below.setCell ?_ (by first | omega | (simp only [World.size_alloc]; omega) | (simp; try omega)) _ | refine Below.alloc ?_ (by first | omega | (simp only [World.size_alloc]; omega) | (simp; try omega)) _)))
    · have d1 : decide (i < 0) = false := by simpa using h0
      have d2 : decide ((n : Int) ≤ i) = true := by simp; omega
      clear hcs
      go_enter Try.func42, Try.ntmps42
      go_wp2_with fail
      refine bodyPost_ret (v := .tuple #[.agg #[.string ⟨#[]⟩, .slice none 0 0, .int .i64 0, .slice none 0 0, .slice none 0 0], .bool false]) (by simp [results, Try.results42, go_sem, *]) rfl ?_
      exact HP.out _ _ rfl (by (repeat (first | exact Below.refl _ _ | assumption | refine Below.drew ?_ | refine Below.setCell ?_ (by first | omega | (simp only [World.size_alloc]; omega) | (simp; try omega)) _ | refine Below.alloc ?_ (by first | omega | (simp only [World.size_alloc]; omega) | (simp; try omega)) _)))

set_option maxHeartbeats 1000000 in
theorem sKeyLength_any (x0 : ByteArray) (x1 x3 x4 : Value) (key : Int) (n : Nat) (w : World) : Calls Try.prog 44 #[.agg #[.string x0, x1, .int .i64 key, x3, x4], .int .i64 n] w fun e w' => e = .returned (.int .i64 (min key.toNat n : Nat)) ∧ Below w.heap.size w w' := by
  have e1 : min (max key 0) (n : Int) = (min key.toNat n : Nat) := by omega
  have HE := Lib.hid e1
  clear e1
  go_enter Try.func44, Try.ntmps44
  go_wp2_with fail
  go_ret
  exact ⟨by rw [← HE.out]; rfl, by (repeat (first | exact Below.refl _ _ | assumption | refine Below.drew ?_ | refine Below.setCell ?_ (by first | omega | (simp only [World.size_alloc]; omega) | (simp; try omega)) _ | refine Below.alloc ?_ (by first | omega | (simp only [World.size_alloc]; omega) | (simp; try omega)) _))⟩

set_option maxHeartbeats 1000000 in
theorem sKinds_any {P : Nat → Prop} (v : Value) (s : SC) (i : Int) (w : World) (h : Sc P w v s) : Calls Try.prog 18 #[v, .int .i64 i] w (KndPost (kndT (tbAt s i)) w) := by
  unfold kndT
  have HT := Lib.hid (fun O => sTableAt_any v s i (w.alloc O) (h.below ((Below.refl _ _).alloc (Nat.le_refl _) O)))
  obtain ⟨tv, rfl, hs⟩ := h
  clear hs
  go_enter Try.func18, Try.ntmps18
  go_wp2_with fail
  refine (HT.out _).mono ?_
  rintro e w1 ⟨ca, cc, ra, rc, pa, pc, rfl, ht, hb⟩
  have HS := Lib.hid (fun O => sKindsOf_any _ _ (w1.alloc O) (ht.cols.below ((Below.refl _ _).alloc (Nat.le_refl _) O)))
  have hz := hb.size
  simp only [World.size_alloc] at hz
  have HB : Hid (Below w.heap.size w w1) := ((Below.refl _ _).alloc (Nat.le_refl _) _).trans (hb.mono (by simp))
  clear HT ht hb
  unfold tbV
  generalize (tbAt s i).cs = cs at *
  generalize cs.length = n at *
  go_wp2_with fail
  refine (HS.out _).mono ?_
  rintro e w2 ⟨v, rfl, hi, hb⟩
  have H2 : Hid (IntsG w.heap.size w2 v (cs.map CL.k)) := hi.weak (by simp; omega)
  have B2 : Hid (Below w.heap.size w w2) := (HB.out.alloc (by omega) _).trans (hb.mono (by simp; omega))
  clear hi hb
  go_wp2_with fail
  go_ret
  exact ⟨v, rfl, H2.out, B2.out⟩

set_option maxHeartbeats 1000000 in
theorem sKeyKinds_any {P : Nat → Prop} (v : Value) (s : SC) (i : Int) (w : World) (h : Sc P w v s) : Calls Try.prog 20 #[v, .int .i64 i] w (KndPost ((kndT (tbAt s i)).take (min (tbAt s i).key.toNat (tbAt s i).cs.length)) w) := by
  unfold kndT
  obtain ⟨kl, hkl⟩ : ∃ kl, min (tbAt s i).key.toNat (tbAt s i).cs.length = kl := ⟨_, rfl⟩
  have HL := Lib.hid hkl
  rw [hkl, ← List.map_take]
  clear hkl
  have HT := Lib.hid (fun O => sTableAt_any v s i (w.alloc O) (h.below ((Below.refl _ _).alloc (Nat.le_refl _) O)))
  obtain ⟨tv, rfl, hs⟩ := h
  clear hs
  go_enter Try.func20, Try.ntmps20
  go_wp2_with fail
  refine (HT.out _).mono ?_
  rintro e w1 ⟨ca, cc, ra, rc, pa, pc, rfl, ht, hb⟩
  have HC := Lib.hid ht.cols
  have hz := hb.size
  simp only [World.size_alloc] at hz
  have HB : Hid (Below w.heap.size w w1) := ((Below.refl _ _).alloc (Nat.le_refl _) _).trans (hb.mono (by simp))
  clear HT ht hb
  unfold tbV
  generalize (tbAt s i).cs = cs at *
  generalize (tbAt s i).s = x0 at *
  generalize (tbAt s i).key = key at *
  generalize (tbAt s i).rs.length = x3 at *
  generalize (tbAt s i).ck.length = x4 at *
  obtain ⟨n, hn⟩ : ∃ n, cs.length = n := ⟨_, rfl⟩
  rw [hn] at HC ⊢
  have hkl := HL.out
  rw [hn] at hkl
  have hkn : kl ≤ n := by omega
  have hkc : kl ≤ cc := by obtain ⟨_, _, e, hf⟩ := HC.out.shape; simp only [Value.slice.injEq] at e; have := hf.le; omega
  have HQ : Hid (∀ W, Below w1.heap.size w1 W → Calls Try.prog 43 #[.slice ca kl cc] W (KndPost ((cs.take kl).map CL.k) W)) := fun W hb => sKindsOf_any _ _ W ((HC.out.take kl hkn).below hb)
  have HK2 : Hid (∀ W, Calls Try.prog 44 #[.agg #[.string x0, .slice ca n cc, .int .i64 key, .slice ra x3 rc, .slice pa x4 pc], .int .i64 n] W fun e w' => e = .returned (.int .i64 (kl : Nat)) ∧ Below W.heap.size W w') := fun W => by
    have h := sKeyLength_any x0 (.slice ca n cc) (.slice ra x3 rc) (.slice pa x4 pc) key n W
    rw [hkl] at h; exact h
  clear HC hn hkl
  go_upto_region 2 with fail
  obtain ⟨wb, hwb⟩ : ∃ wb, w1.alloc (.cells #[.string x0, .slice ca n cc, .int .i64 key, .slice ra x3 rc, .slice pa x4 pc] 40) = wb := ⟨_, rfl⟩
  have BB : Hid (Below w1.heap.size w1 wb) := by rw [← hwb]; exact (Below.refl _ _).alloc (Nat.le_refl _) _
  have hbz : w1.heap.size < wb.heap.size := by rw [← hwb]; simp
  have a0 : wb.cell? ⟨w1.heap.size, 0, none⟩ = some (.string x0) := by subst hwb; go_simp
  have a1 : wb.cell? ⟨w1.heap.size, 1, none⟩ = some (.slice ca n cc) := by subst hwb; go_simp
  have a2 : wb.cell? ⟨w1.heap.size, 2, none⟩ = some (.int .i64 key) := by subst hwb; go_simp
  have a3 : wb.cell? ⟨w1.heap.size, 3, none⟩ = some (.slice ra x3 rc) := by subst hwb; go_simp
  have a4 : wb.cell? ⟨w1.heap.size, 4, none⟩ = some (.slice pa x4 pc) := by subst hwb; go_simp
  rw [hwb]
  have HK : Hid (∀ W, Below wb.heap.size wb W → W.cell? ⟨w1.heap.size, 0, none⟩ = some (.string x0) ∧ W.cell? ⟨w1.heap.size, 1, none⟩ = some (.slice ca n cc) ∧ W.cell? ⟨w1.heap.size, 2, none⟩ = some (.int .i64 key) ∧ W.cell? ⟨w1.heap.size, 3, none⟩ = some (.slice ra x3 rc) ∧ W.cell? ⟨w1.heap.size, 4, none⟩ = some (.slice pa x4 pc)) := fun W hb => ⟨(hb.cell (p := ⟨w1.heap.size, 0, none⟩) hbz).trans a0, (hb.cell (p := ⟨w1.heap.size, 1, none⟩) hbz).trans a1, (hb.cell (p := ⟨w1.heap.size, 2, none⟩) hbz).trans a2, (hb.cell (p := ⟨w1.heap.size, 3, none⟩) hbz).trans a3, (hb.cell (p := ⟨w1.heap.size, 4, none⟩) hbz).trans a4⟩
  clear hwb a0 a1 a2 a3 a4
  refine wp_region_held_drew (S := fun W => W.cell? ⟨w1.heap.size, 0, none⟩ = some (.string x0) ∧ W.cell? ⟨w1.heap.size, 1, none⟩ = some (.slice ca n cc) ∧ W.cell? ⟨w1.heap.size, 2, none⟩ = some (.int .i64 key) ∧ W.cell? ⟨w1.heap.size, 3, none⟩ = some (.slice ra x3 rc) ∧ W.cell? ⟨w1.heap.size, 4, none⟩ = some (.slice pa x4 pc)) (by kernel_rfl) (HK.out _ (Below.refl _ _).drew) (fun hHeld => ?_)
  obtain ⟨wd, hwd⟩ : ∃ wd, wb.drew = wd := ⟨_, rfl⟩
  have BW : Hid (Below wb.heap.size wb wd) := by rw [← hwd]; exact (Below.refl _ _).drew
  rw [hwd] at hHeld ⊢
  clear hwd
  refine wpAnyH_takeD (i := 0) (d := 13) (v := ?_) rfl rfl (by kernel_rfl) (by kernel_rfl) (by kernel_rfl) (fun _ _ _ h => h) (Or.inl ⟨by rfl, ?_⟩) (by assumption) ?_; rotate_left
  · intro W hSw; (try dsimp only at hSw); go_simp; (try with_reducible rfl)
  (try simp only [List.set_cons_zero, List.set_cons_succ])
  refine wpAnyH_takeD (i := 1) (d := 14) (v := ?_) rfl rfl (by kernel_rfl) (by kernel_rfl) (by kernel_rfl) (fun _ _ _ h => h) (Or.inl ⟨by rfl, ?_⟩) (by assumption) ?_; rotate_left
  · intro W hSw; (try dsimp only at hSw); go_simp; (try with_reducible rfl)
  (try simp only [List.set_cons_zero, List.set_cons_succ])
  refine wpAnyH_takeD (i := 2) (d := 15) (v := ?_) rfl rfl (by kernel_rfl) (by kernel_rfl) (by kernel_rfl) (fun _ _ _ h => h) (Or.inl ⟨by rfl, ?_⟩) (by assumption) ?_; rotate_left
  · intro W hSw; (try dsimp only at hSw); go_simp; (try with_reducible rfl)
  (try simp only [List.set_cons_zero, List.set_cons_succ])
  refine wpAnyH_takeD (i := 3) (d := 16) (v := ?_) rfl rfl (by kernel_rfl) (by kernel_rfl) (by kernel_rfl) (fun _ _ _ h => h) (Or.inl ⟨by rfl, ?_⟩) (by assumption) ?_; rotate_left
  · intro W hSw; (try dsimp only at hSw); go_simp; (try with_reducible rfl)
  (try simp only [List.set_cons_zero, List.set_cons_succ])
  refine wpAnyH_takeD (i := 4) (d := 17) (v := ?_) rfl rfl (by kernel_rfl) (by kernel_rfl) (by kernel_rfl) (fun _ _ _ h => h) (Or.inl ⟨by rfl, ?_⟩) (by assumption) ?_; rotate_left
  · intro W hSw; (try dsimp only at hSw); go_simp; (try with_reducible rfl)
  (try simp only [List.set_cons_zero, List.set_cons_succ])
  refine wpAnyH_takeD (i := 5) (d := 18) (v := ?_) rfl rfl (by kernel_rfl) (by kernel_rfl) (by kernel_rfl) (fun _ _ _ h => h) (Or.inl ⟨by rfl, ?_⟩) (by assumption) ?_; rotate_left
  · intro W hSw; (try dsimp only at hSw); go_simp; (try with_reducible rfl)
  (try simp only [List.set_cons_zero, List.set_cons_succ])
  refine wpAnyH_ready (rs := [6]) (by kernel_rfl) (by simp) ?_
  refine AllReadyH.cons rfl (fun K hK => ?_) AllReadyH.nil
  go_simp
  go_at_call 44
  refine (HK2.out _).mono ?_
  rintro e w_6 ⟨rfl, hg⟩
  clear hHeld
  replace BW := Lib.hid (below_go BW.out hg)
  have hz6 := BW.out.size
  clear hg
  refine hK.out _ _ (HK.out _ BW.out) (fun hHeld => ?_)
  clear hK K
  (try simp only [List.set_cons_zero, List.set_cons_succ])
  refine wpAnyH_takeD (i := 7) (d := 20) (v := ?_) rfl rfl (by kernel_rfl) (by kernel_rfl) (by kernel_rfl) (fun _ _ _ h => h) (Or.inl ⟨by rfl, ?_⟩) (by assumption) ?_; rotate_left
  · intro W hSw; (try dsimp only at hSw); go_simp; (try with_reducible rfl)
  (try simp only [List.set_cons_zero, List.set_cons_succ])
  refine wpAnyH_ready (rs := [8]) (by kernel_rfl) (by simp) ?_
  refine AllReadyH.cons rfl (fun K hK => ?_) AllReadyH.nil
  go_simp
  go_at_call 43
  refine (HQ.out _ (below_go BB.out BW.out)).mono ?_
  rintro e w5 ⟨vk, rfl, hik, hg⟩
  clear hHeld
  replace BW := Lib.hid (below_go BW.out hg)
  have HV : Hid (IntsG w.heap.size w5 vk ((cs.take kl).map CL.k)) := hik.weak (by omega)
  clear hik
  clear hg
  refine hK.out _ _ (HK.out _ BW.out) (fun hHeld => ?_)
  clear hK K
  (try simp only [List.set_cons_zero, List.set_cons_succ])
  refine wpAnyH_takeD (i := 9) (d := 4) (v := ?_) rfl rfl (by kernel_rfl) (by kernel_rfl) (by kernel_rfl) (fun _ _ _ h => h) (Or.inl ⟨by rfl, ?_⟩) (by assumption) ?_; rotate_left
  · intro W hSw; (try dsimp only at hSw); go_simp; (try with_reducible rfl)
  (try simp only [List.set_cons_zero, List.set_cons_succ])
  clear hHeld
  refine wpAnyH_done (by kernel_rfl) ?_ _
  go_wp2_with fail
  go_ret
  exact ⟨vk, rfl, HV.out, HB.out.trans ((BB.out.trans (BW.out.mono (by omega))).mono (by omega))⟩
end Go.Proofs.Ytjcbmeannhafjaa
