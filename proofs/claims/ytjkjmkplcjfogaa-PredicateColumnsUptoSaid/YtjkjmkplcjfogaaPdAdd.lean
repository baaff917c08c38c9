
/- The reference's Add: a number into an ascending list, once. -/
import Derived.Test.YtjkjmkplcjfogaaPdInts

import Derived.Test.YtjkjmkplcjfogaaPdColsC

import Derived.Test.YtjkjmkplcjfogaaPdColumns

import Derived.Test.YtjkjmkplcjfogaaPdCase

import Derived.Test.YtjkjmkplcjfogaaPdAddMath

import Derived.Test.YtjkjmkplcjfogaaPdBindMem

import Derived.Test.YtjkjmkplcjfogaaIvLeaf

namespace Go.Proofs.Ytjkjmkplcjfogaa

open Go.RowKit Go.Deep

/-- append to an own row from any source, as a step of a region that draws its order. -/
theorem step_append_src {P : Program} {ops : Array Oper} {o : Oper} {a : Act} {w : World} {K : Act → World → Prop} {Q : Exit → Act → World → Prop} {E : Prop} (hgd : o.guard = none) (s x : Operand) (t : TypeId)
    (ho : o.op = .call { callee := .builtin .append, args := #[s, x], argTypes := #[t, t] })
    (base : Nat) (e : TypeId) (i : TypeInfo) (z : Value) (size bytes : Nat) (ht : P.underlying t = some (.slice e)) (hi : P.info? e = some i) (hz : i.zero = some z)
    (hsize : i.size = size) (hby : i.bytes = bytes) (hzs : z.cells.size = size) (hsz : 0 < size)
    (v : Value) (n : Nat) (xs : List Value) (hs : a.eval s = v) (hown : w.ownsRow base e size v n xs)
    (ad : Option Addr) (m c : Nat) (news : List Value) (hx : a.eval x = .slice ad m c) (hnil : ad = none → m = 0 ∧ c = 0) (hl : news.length = m * size) (hnews : ∀ p, ad = some p → ∀ j u, news[j]? = some u → w.cell? (p.add j) = some u) (h1 : ∀ u ∈ news, u.oneCell' = true)
    (h63 : n + m ≤ maxLen) (hbytes : (n + m) * bytes ≤ 140737488355328) (hbase : base ≤ w.heap.size)
    (h : ∀ v' w', w'.ownsRow base e size v' (n + m) (xs ++ news) → w.grownBy w' v.ownBlock → K (a.put o.dst v') w') : if Region.wanted o (yielded ops a.tmps) = true then Oper.wp P o a w K Q else E := by
  have hw : Region.wanted o (yielded ops a.tmps) = true := by simp [Region.wanted, hgd]
  rw [if_pos hw]
  have key : ∃ v' w', (Builtin.append_ #[t, t] o.type #[v, .slice ad m c]).run P w = .ok v' w' ∧ w'.ownsRow base e size v' (n + m) (xs ++ news) ∧ w.grownBy w' v.ownBlock := by
    cases ad with
    | none =>
      obtain ⟨rfl, rfl⟩ := hnil rfl
      have hn : news = [] := List.eq_nil_of_length_eq_zero (by simpa using hl)
      subst hn
      exact ⟨v, w, run_append_owned_none (w := w) base t o.type e i size ht hi v n xs hown, by simpa using hown, ⟨rfl, rfl, rfl, Nat.le_refl _, fun _ _ _ => rfl⟩⟩
    | some p =>
      obtain ⟨v', w', hr, h2, h3, _, _⟩ := run_append_own_at (P := P) w base t o.type e i z size bytes ht hi hz hsize hby hzs hsz v n xs hown p m c news hl (hnews p rfl) h1 h63 hbytes hbase
      exact ⟨v', w', hr, h2, h3⟩
  obtain ⟨v', w', hr, h2, h3⟩ := key
  unfold Oper.wp execOp
  simp only [ho, resolve, invoke, builtin, Sem.run_bind, Sem.run_pure, Result.andThen_ok, List.map_toArray, List.map_cons, List.map_nil, hs, hx, hr]
  exact h v' w' h2 h3
theorem below_own {B : Nat} {w w' : World} {v : Value} {n size : Nat} {t : TypeId} {xs : List Value} (hg : w.grownBy w' v.ownBlock) (hown : w.ownsRow B t size v n xs) (hB : B ≤ w.heap.size) : Below B w w' :=
  (Below.refl _ _).grown hg hB (fun k e => (hown.lt k e).1)
theorem iC_one (s : List Int) : ∀ u ∈ iC s, u.oneCell' = true := by
  intro u hu; unfold iC at hu; obtain ⟨x, _, rfl⟩ := List.mem_map.1 hu; rfl
theorem ints_cells {w : World} {a : Option Addr} {n c : Nat} {l : List Int} (h : IntsAt w (.slice a n c) l) (k : Nat) : ∀ p, a = some p → ∀ j u, (iC (l.drop k))[j]? = some u → w.cell? ⟨p.block, p.off + k + j, none⟩ = some u := by
  obtain ⟨a', c', e, _, hi⟩ := h
  simp only [Value.slice.injEq] at e
  obtain ⟨rfl, -, rfl⟩ := e
  intro p hp j u hj
  unfold iC at hj
  rw [List.getElem?_map, List.getElem?_drop] at hj
  have hlt : k + j < l.length := by
    rcases Nat.lt_or_ge (k + j) l.length with h | h
    · exact h
    · rw [List.getElem?_eq_none h] at hj; simp at hj
  rw [List.getElem?_eq_getElem hlt] at hj
  simp only [Option.map_some, Option.some.injEq] at hj
  obtain ⟨b, off, ea, _, hc⟩ := hi (k + j) hlt
  rw [hp] at ea
  simp only [Option.some.injEq] at ea
  subst ea
  rw [← hj]
  simpa [Nat.add_assoc] using hc
theorem add_block (a : Addr) (n : Nat) : (a.add n).block = a.block := by unfold Addr.add; split <;> rfl
theorem ints_add {w : World} {a : Option Addr} {n c : Nat} {l : List Int} (h : IntsAt w (.slice a n c) l) : ∀ p, a = some p → ∀ i u, (iC l)[i]? = some u → w.cell? (p.add i) = some u := by
  obtain ⟨a', c', e, _, hi⟩ := h
  simp only [Value.slice.injEq] at e
  obtain ⟨rfl, -, rfl⟩ := e
  intro p hp i u hu
  unfold iC at hu
  have hlt : i < l.length := by have := (List.getElem?_eq_some_iff.1 hu).1; simpa using this
  rw [List.getElem?_map, List.getElem?_eq_getElem hlt] at hu
  simp only [Option.map_some, Option.some.injEq] at hu
  obtain ⟨b, off, ea, _, hc⟩ := hi i hlt
  rw [hp] at ea
  simp only [Option.some.injEq] at ea
  subst ea
  rw [← hu]
  unfold Addr.add
  split
  · rename_i h0; subst h0; simpa using hc
  · exact hc
theorem iC_take {l : List Int} {j i : Nat} {u : Value} (h : (iC (l.take j))[i]? = some u) : (iC l)[i]? = some u := by
  unfold iC at h ⊢
  rw [List.getElem?_map] at h ⊢
  rw [List.getElem?_take] at h
  split at h
  · exact h
  · simp at h
theorem drop_none {l : List Int} {j i : Nat} {u : Value} (h : l.length = j) : ¬ (iC (l.drop j))[i]? = some u := by
  unfold iC; rw [List.drop_of_length_le (by omega)]; simp
/-- What Add hands back. -/
def AddPost (l : List Int) (n : Int) (w : World) (e : Ending) (w' : World) : Prop := ∃ a c, e = .returned (.slice a (addI l n).length c) ∧ IntsAt w' (.slice a (addI l n).length c) (addI l n) ∧ Below w.heap.size w w'
theorem add_out {l : List Int} {n : Int} {w w' : World} {j m : Nat} {v : Value} {q : Nat} (hr : addI l n = l.take j ++ [n] ++ l.drop j) (hm : l.length = m) (hj : j ≤ m) (hq : q = m + 1) (ho : w'.ownsRow w.heap.size 3 1 v q (iC (l.take j) ++ [.int .i64 n] ++ iC (l.drop j))) (hb : Below w.heap.size w w') (hfew : m ≤ 1099511627776) : AddPost l n w (.returned v) w' := by
  have e : iC (l.take j) ++ [.int .i64 n] ++ iC (l.drop j) = iC (addI l n) := by rw [hr]; unfold iC; simp
  have hl : (addI l n).length = q := by rw [hr]; simp; omega
  rw [e, ← hl] at ho
  have hg := (intsG_own ho (by omega)).at
  obtain ⟨a, c, rfl⟩ := own_slice ho
  exact ⟨a, c, rfl, hg, hb⟩

set_option maxRecDepth 100000 in
set_option maxHeartbeats 4000000 in
theorem rAdd_any (l : List Int) (n : Int) (v : Value) (w : World) (h : IntsAt w v l) (hl : l.length ≤ 1099511627776) : Calls Try.prog 73 #[v, .int .i64 n] w (AddPost l n w) := by
  have H0 := Lib.hid h
  obtain ⟨a, c, rfl, hf, hi⟩ := h
  obtain ⟨k, hkk⟩ : ∃ k, lowI l n = k := ⟨_, rfl⟩
  obtain ⟨m, hm⟩ : ∃ m, l.length = m := ⟨_, rfl⟩
  have hkm : k ≤ m := by rw [← hkk, ← hm]; exact lowI_le l n
  have hmc : m ≤ c := by have := hf.le; omega
  have hcm : c ≤ maxLen := hf.max
  have HNIL : Hid (a = none → m = 0 ∧ c = 0) := fun e => by have := hf.nil e; omega
  have HLT : Hid (∀ j (h : j < k) (h' : j < l.length), l[j] < n) := fun j h h' => lowI_lt l n j (by rw [hkk]; exact h) h'
  have HAT : Hid (∀ (h : k < l.length), ¬ l[k] < n) := fun h => by have := lowI_at l n (by rw [hkk]; exact h); simpa only [hkk] using this
  have HADD : Hid (addI l n = if l[k]? = some n then l else l.take k ++ [n] ++ l.drop k) := by show _ = _; rw [addI_low, hkk]
  have HI := Lib.hid hi
  have HM := Lib.hid hm
  rw [hm] at hl H0 ⊢
  have hinfo : (Try.prog.info? 3).map (fun i => (i.zero, i.size, i.bytes)) = some (some (.int .i64 0), 1, 8) := by kernel_rfl
  obtain ⟨i0, hi0, hz0, hz1, hz2⟩ := info_parts hinfo
  have HI0 := Lib.hid hi0
  have HZ0 := Lib.hid hz0
  have HZ1 := Lib.hid hz1
  have HZ2 := Lib.hid hz2
  clear hi hf hm hkk hinfo hi0 hz0 hz1 hz2
  go_enter Try.func73, Try.ntmps73
  go_wp2_with fail
  go_loop [5] (fun i => ∃ j : Nat, j ≤ k ∧ i = .int .i64 j) (fun i => k - (intOf i).toNat)
  case atStart => exact ⟨0, by omega, rfl⟩
  case round =>
    obtain ⟨j, hj, rfl⟩ := hrel
    by_cases hlt : j < k
    · have hjm : (j : Int) < m := by omega
      have hjl : j < l.length := by rw [HM.out]; omega
      obtain ⟨b, off, rfl, hb, hc⟩ := HI.out j hjl
      have hx := HLT.out j hlt hjl
      generalize l[j] = x at hc hx
      go_wp2_with fail
      go_round
      case rel => exact ⟨j + 1, by omega, by go_num⟩
      case measure => simp [intOf]; omega
    · obtain rfl : j = k := by omega
      clear HLT hlt hj
      by_cases hlt2 : j < m
      · have hjm : (j : Int) < m := by omega
        have hjl : j < l.length := by rw [HM.out]; omega
        obtain ⟨b, off, rfl, hb, hc⟩ := HI.out j hjl
        have hx := HAT.out hjl
        have HXJ : Hid (l[j]? = some l[j]) := List.getElem?_eq_getElem hjl
        generalize l[j] = x at hc hx HXJ
        by_cases hxn : x = n
        · subst hxn
          have HRES : Hid (addI l x = l) := by show _ = _; rw [HADD.out, if_pos HXJ.out]
          go_wp2_with fail
          go_ret
          exact ⟨some ⟨b, off, none⟩, c, by rw [HRES.out, HM.out]; rfl, by rw [HRES.out, HM.out]; exact H0.out, Below.refl _ _⟩
        · have HRES : Hid (addI l n = l.take j ++ [n] ++ l.drop j) := by show _ = _; rw [HADD.out, if_neg (by rw [HXJ.out]; simpa using hxn)]
          have hcj : ¬ (c = j) := by omega
          go_wp2_with fail
          have hjc : j ≤ c := by omega
          have BW : Hid (Below w.heap.size w w.drew) := (Below.refl _ _).drew
          refine wp_region_held_drew (S := fun _ => True) (by kernel_rfl) trivial (fun hHeld => ?_)
          obtain ⟨wd, hwd⟩ : ∃ wd, w.drew = wd := ⟨_, rfl⟩
          rw [hwd] at BW ⊢
          clear hwd
          refine wpAnyH_takeD (i := 0) (d := 33) (v := ?_) rfl rfl (by kernel_rfl) (by kernel_rfl) (by kernel_rfl) (fun _ _ _ h => h) (Or.inl ⟨by rfl, ?_⟩) (by assumption) ?_; rotate_left
          · intro W hSw; (try dsimp only at hSw); go_simp; (try with_reducible rfl)
          (try simp only [List.set_cons_zero, List.set_cons_succ])
          refine wpAnyH_takeD (i := 1) (d := 34) (v := ?_) rfl rfl (by kernel_rfl) (by kernel_rfl) (by kernel_rfl) (fun _ _ _ h => h) (Or.inl ⟨by rfl, ?_⟩) (by assumption) ?_; rotate_left
          · intro W hSw; (try dsimp only at hSw); go_simp; (try with_reducible rfl)
          (try simp only [List.set_cons_zero, List.set_cons_succ])
          refine wpAnyH_takeD (i := 2) (d := 35) (v := ?_) rfl rfl (by kernel_rfl) (by kernel_rfl) (by kernel_rfl) (fun _ _ _ h => h) (Or.inl ⟨by rfl, ?_⟩) (by assumption) ?_; rotate_left
          · intro W hSw; (try dsimp only at hSw); go_simp; (try with_reducible rfl)
          (try simp only [List.set_cons_zero, List.set_cons_succ])
          refine wpAnyH_takeD (i := 4) (d := 37) (v := ?_) rfl rfl (by kernel_rfl) (by kernel_rfl) (by kernel_rfl) (fun _ _ _ h => h) (Or.inl ⟨by rfl, ?_⟩) (by assumption) ?_; rotate_left
          · intro W hSw; (try dsimp only at hSw); go_simp; (try with_reducible rfl)
          (try simp only [List.set_cons_zero, List.set_cons_succ])
          refine wpAnyH_takeD (i := 7) (d := 40) (v := ?_) rfl rfl (by kernel_rfl) (by kernel_rfl) (by kernel_rfl) (fun _ _ _ h => h) (Or.inl ⟨by rfl, ?_⟩) (by assumption) ?_; rotate_left
          · intro W hSw; (try dsimp only at hSw); go_simp; (try with_reducible rfl)
          (try simp only [List.set_cons_zero, List.set_cons_succ])
          refine wpAnyH_takeD (i := 8) (d := 41) (v := ?_) rfl rfl (by kernel_rfl) (by kernel_rfl) (by kernel_rfl) (fun _ _ _ h => h) (Or.inl ⟨by rfl, ?_⟩) (by assumption) ?_; rotate_left
          · intro W hSw; (try dsimp only at hSw); go_simp; (try with_reducible rfl)
          (try simp only [List.set_cons_zero, List.set_cons_succ])
          refine wpAnyH_takeD (i := 9) (d := 42) (v := ?_) rfl rfl (by kernel_rfl) (by kernel_rfl) (by kernel_rfl) (fun _ _ _ h => h) (Or.inl ⟨by rfl, ?_⟩) (by assumption) ?_; rotate_left
          · intro W hSw; (try dsimp only at hSw); go_simp; (try with_reducible rfl)
          (try simp only [List.set_cons_zero, List.set_cons_succ])
          have hsd : w.heap.size ≤ wd.heap.size := BW.size
          have HBD := Lib.hid BW
          have HT1 : Hid (∀ W, Below w.heap.size w W → ∀ p, (some ⟨b, off, none⟩ : Option Addr) = some p → ∀ i u, (iC (l.take j))[i]? = some u → W.cell? (p.add i) = some u) := fun W hb p hp i u hu => ints_add (H0.out.blw hb) p hp i u (iC_take hu)
          have HT3 : Hid (∀ W, Below w.heap.size w W → ∀ p, (some ⟨b, off + j, none⟩ : Option Addr) = some p → ∀ i u, (iC (l.drop j))[i]? = some u → W.cell? (p.add i) = some u) := (fun W hb p hp i u hu => by simp only [Option.some.injEq] at hp; subst hp; have := ints_cells (H0.out.blw hb) j _ rfl i u hu; unfold Addr.add; split; (rename_i h0; subst h0; simpa using this); exact this)
          have HL1 : Hid ((iC (l.take j)).length = j * 1) := by show _ = _; unfold iC; rw [List.length_map, List.length_take, HM.out]; omega
          have HL3 : Hid ((iC (l.drop j)).length = (m - j) * 1) := by show _ = _; unfold iC; rw [List.length_map, List.length_drop, HM.out]; omega
          have HN1 : Hid ((some ⟨b, off, none⟩ : Option Addr) = none → j = 0 ∧ c = 0) := fun e => by have := HNIL.out e; omega
          have HN3 : Hid ((some ⟨b, off + j, none⟩ : Option Addr) = none → (m - j) = 0 ∧ (c - j) = 0) := (fun e => by cases e)
          have A5 : Hid (∀ u ∈ ([.int .i64 n] : List Value), u.oneCell' = true) := by intro u hu; simp only [List.mem_singleton] at hu; subst hu; rfl
          have hb63 : ∀ q : Nat, q ≤ 1099511627777 → q ≤ maxLen ∧ q * 8 ≤ 140737488355328 := fun q hq => by unfold maxLen; omega
          refine wpAnyH_ready (rs := [3, 5]) (by kernel_rfl) (by simp) ?_
          refine AllReadyH.cons rfl (fun K hK => ?_) (AllReadyH.cons rfl (fun K hK => ?_) AllReadyH.nil)
          · refine step_append_src rfl _ _ 32 rfl w.heap.size 3 i0 (.int .i64 0) 1 8 Try.underlying32 HI0.out HZ0.out HZ1.out HZ2.out rfl (by decide) (.slice none 0 0) 0 ([]) rfl (World.ownsRow_nil _ _ _ _) (some ⟨b, off, none⟩ : Option Addr) j c (iC (l.take j)) rfl HN1.out HL1.out (HT1.out _ HBD.out) (iC_one _) (by have := (hb63 j (by omega)).1; omega) (by have := (hb63 j (by omega)).2; omega) HBD.out.size ?_
            intro v1 w1 hown hgr
            rw [Nat.zero_add, List.nil_append] at hown
            obtain ⟨v1a, v1c, rfl⟩ := own_slice hown
            have hbn : Below wd.heap.size wd w1 := (Below.refl _ _).grown hgr (Nat.le_refl _) (fun k e => by cases e)
            have BC1 : Below w.heap.size w w1 := HBD.out.trans (hbn.mono hsd)
            have HO1 := Lib.hid hown
            clear hown hgr hbn
            clear hHeld
            refine hK.out _ _ trivial (fun hHeld => ?_)
            clear hK K
            (try simp only [List.set_cons_zero, List.set_cons_succ])
            refine wpAnyH_ready (rs := [5]) (by kernel_rfl) (by simp) ?_
            refine AllReadyH.cons rfl (fun K hK => ?_) AllReadyH.nil
            go_simp
            obtain ⟨w2, hw2⟩ : ∃ w2, w1.alloc (.cells #[.int .i64 n] 3) = w2 := ⟨_, rfl⟩
            obtain ⟨nb, hnb⟩ : ∃ nb, w1.heap.size = nb := ⟨_, rfl⟩
            have CN : Hid (∀ i u, ([.int .i64 n] : List Value)[i]? = some u → w2.cell? ((⟨nb, 0, none⟩ : Addr).add i) = some u) := by rw [← hw2, ← hnb]; exact one_cell w1 _ _
            have BC : Hid (Below w.heap.size w w2) := by rw [← hw2]; exact BC1.alloc BC1.size _
            have HO2 : Hid (w2.ownsRow w.heap.size 3 1 (.slice v1a j v1c) j (iC (l.take j))) := by rw [← hw2]; exact HO1.out.alloc _
            rw [hw2, hnb]
            clear hw2 hnb BC1 HO1
            clear hHeld
            refine hK.out _ _ trivial (fun hHeld => ?_)
            clear hK K
            (try simp only [List.set_cons_zero, List.set_cons_succ])
            refine wpAnyH_ready (rs := [6]) (by kernel_rfl) (by simp) ?_
            refine AllReadyH.cons rfl (fun K hK => ?_) AllReadyH.nil
            refine step_append_src rfl _ _ 32 rfl w.heap.size 3 i0 (.int .i64 0) 1 8 Try.underlying32 HI0.out HZ0.out HZ1.out HZ2.out rfl (by decide) (.slice v1a j v1c) j (iC (l.take j)) rfl HO2.out (some ⟨nb, 0, none⟩) 1 1 ([.int .i64 n]) rfl (fun e => by cases e) rfl (fun p hp i u hu => by simp only [Option.some.injEq] at hp; subst hp; exact CN.out i u hu) A5.out (hb63 _ (by omega)).1 (hb63 _ (by omega)).2 (BC.out.size) ?_
            intro v3 w3 hown hgr
            obtain ⟨v3a, v3c, rfl⟩ := own_slice hown
            have B3 : Hid (Below w.heap.size w w3) := BC.out.trans (below_own hgr HO2.out BC.out.size)
            have HO3 := Lib.hid hown
            clear hown hgr
            clear hHeld
            refine hK.out _ _ trivial (fun hHeld => ?_)
            clear hK K
            (try simp only [List.set_cons_zero, List.set_cons_succ])
            refine wpAnyH_ready (rs := [10]) (by kernel_rfl) (by simp) ?_
            refine AllReadyH.cons rfl (fun K hK => ?_) AllReadyH.nil
            refine step_append_src rfl _ _ 32 rfl w.heap.size 3 i0 (.int .i64 0) 1 8 Try.underlying32 HI0.out HZ0.out HZ1.out HZ2.out rfl (by decide) (.slice v3a (j + 1) v3c) (j + 1) (iC (l.take j) ++ [.int .i64 n]) rfl HO3.out (some ⟨b, off + j, none⟩ : Option Addr) (m - j) (c - j) (iC (l.drop j)) rfl HN3.out HL3.out (HT3.out _ B3.out) (iC_one _) (hb63 _ (by omega)).1 (hb63 _ (by omega)).2 (B3.out.size) ?_
            intro v4 w4 hown hgr
            obtain ⟨v4a, v4c, rfl⟩ := own_slice hown
            have B4 : Hid (Below w.heap.size w w4) := B3.out.trans (below_own hgr HO3.out B3.out.size)
            have HO4 := Lib.hid hown
            clear hown hgr
            clear hHeld
            refine hK.out _ _ trivial (fun hHeld => ?_)
            clear hK K
            (try simp only [List.set_cons_zero, List.set_cons_succ])
            refine wpAnyH_takeD (i := 11) (d := 4) (v := ?_) rfl rfl (by kernel_rfl) (by kernel_rfl) (by kernel_rfl) (fun _ _ _ h => h) (Or.inl ⟨by rfl, ?_⟩) (by assumption) ?_; rotate_left
            · intro W hSw; (try dsimp only at hSw); go_simp; (try with_reducible rfl)
            (try simp only [List.set_cons_zero, List.set_cons_succ])
            refine wpAnyH_done (by kernel_rfl) ?_ _
            have HFIN := Lib.hid (add_out (q := j + 1 + (m - j)) HRES.out HM.out hkm (by omega) HO4.out B4.out hl)
            clear hHeld HO4 B4 HO3 B3
            go_wp2_with fail
            go_ret
            exact HFIN.out
          · go_simp
            obtain ⟨w1, hw1⟩ : ∃ w1, wd.alloc (.cells #[.int .i64 n] 3) = w1 := ⟨_, rfl⟩
            obtain ⟨nb, hnb⟩ : ∃ nb, wd.heap.size = nb := ⟨_, rfl⟩
            have CN0 : ∀ i u, ([.int .i64 n] : List Value)[i]? = some u → w1.cell? ((⟨nb, 0, none⟩ : Addr).add i) = some u := by rw [← hw1, ← hnb]; exact one_cell wd _ _
            have hnz : nb < w1.heap.size := by rw [← hw1, ← hnb]; simp
            have BC1 : Below w.heap.size w w1 := by rw [← hw1]; exact HBD.out.alloc hsd _
            rw [hw1, hnb]
            have HC0 := Lib.hid CN0
            clear hw1 hnb CN0
            clear hHeld
            refine hK.out _ _ trivial (fun hHeld => ?_)
            clear hK K
            (try simp only [List.set_cons_zero, List.set_cons_succ])
            refine wpAnyH_ready (rs := [3]) (by kernel_rfl) (by simp) ?_
            refine AllReadyH.cons rfl (fun K hK => ?_) AllReadyH.nil
            refine step_append_src rfl _ _ 32 rfl w.heap.size 3 i0 (.int .i64 0) 1 8 Try.underlying32 HI0.out HZ0.out HZ1.out HZ2.out rfl (by decide) (.slice none 0 0) 0 ([]) rfl (World.ownsRow_nil _ _ _ _) (some ⟨b, off, none⟩ : Option Addr) j c (iC (l.take j)) rfl HN1.out HL1.out (HT1.out _ BC1) (iC_one _) (by have := (hb63 j (by omega)).1; omega) (by have := (hb63 j (by omega)).2; omega) BC1.size ?_
            intro v1 w2 hown hgr
            rw [Nat.zero_add, List.nil_append] at hown
            obtain ⟨v1a, v1c, rfl⟩ := own_slice hown
            have hbn : Below w1.heap.size w1 w2 := (Below.refl _ _).grown hgr (Nat.le_refl _) (fun k e => by cases e)
            have CN : Hid (∀ i u, ([.int .i64 n] : List Value)[i]? = some u → w2.cell? ((⟨nb, 0, none⟩ : Addr).add i) = some u) := fun i u hu => (hbn.cell (p := (⟨nb, 0, none⟩ : Addr).add i) (by rw [add_block]; exact hnz)).trans (HC0.out i u hu)
            have BC : Hid (Below w.heap.size w w2) := BC1.trans (hbn.mono BC1.size)
            have HO2 := Lib.hid hown
            clear hown hgr hbn BC1 HC0
            clear hHeld
            refine hK.out _ _ trivial (fun hHeld => ?_)
            clear hK K
            (try simp only [List.set_cons_zero, List.set_cons_succ])
            refine wpAnyH_ready (rs := [6]) (by kernel_rfl) (by simp) ?_
            refine AllReadyH.cons rfl (fun K hK => ?_) AllReadyH.nil
            refine step_append_src rfl _ _ 32 rfl w.heap.size 3 i0 (.int .i64 0) 1 8 Try.underlying32 HI0.out HZ0.out HZ1.out HZ2.out rfl (by decide) (.slice v1a j v1c) j (iC (l.take j)) rfl HO2.out (some ⟨nb, 0, none⟩) 1 1 ([.int .i64 n]) rfl (fun e => by cases e) rfl (fun p hp i u hu => by simp only [Option.some.injEq] at hp; subst hp; exact CN.out i u hu) A5.out (hb63 _ (by omega)).1 (hb63 _ (by omega)).2 (BC.out.size) ?_
            intro v3 w3 hown hgr
            obtain ⟨v3a, v3c, rfl⟩ := own_slice hown
            have B3 : Hid (Below w.heap.size w w3) := BC.out.trans (below_own hgr HO2.out BC.out.size)
            have HO3 := Lib.hid hown
            clear hown hgr
            clear hHeld
            refine hK.out _ _ trivial (fun hHeld => ?_)
            clear hK K
            (try simp only [List.set_cons_zero, List.set_cons_succ])
            refine wpAnyH_ready (rs := [10]) (by kernel_rfl) (by simp) ?_
            refine AllReadyH.cons rfl (fun K hK => ?_) AllReadyH.nil
            refine step_append_src rfl _ _ 32 rfl w.heap.size 3 i0 (.int .i64 0) 1 8 Try.underlying32 HI0.out HZ0.out HZ1.out HZ2.out rfl (by decide) (.slice v3a (j + 1) v3c) (j + 1) (iC (l.take j) ++ [.int .i64 n]) rfl HO3.out (some ⟨b, off + j, none⟩ : Option Addr) (m - j) (c - j) (iC (l.drop j)) rfl HN3.out HL3.out (HT3.out _ B3.out) (iC_one _) (hb63 _ (by omega)).1 (hb63 _ (by omega)).2 (B3.out.size) ?_
            intro v4 w4 hown hgr
            obtain ⟨v4a, v4c, rfl⟩ := own_slice hown
            have B4 : Hid (Below w.heap.size w w4) := B3.out.trans (below_own hgr HO3.out B3.out.size)
            have HO4 := Lib.hid hown
            clear hown hgr
            clear hHeld
            refine hK.out _ _ trivial (fun hHeld => ?_)
            clear hK K
            (try simp only [List.set_cons_zero, List.set_cons_succ])
            refine wpAnyH_takeD (i := 11) (d := 4) (v := ?_) rfl rfl (by kernel_rfl) (by kernel_rfl) (by kernel_rfl) (fun _ _ _ h => h) (Or.inl ⟨by rfl, ?_⟩) (by assumption) ?_; rotate_left
            · intro W hSw; (try dsimp only at hSw); go_simp; (try with_reducible rfl)
            (try simp only [List.set_cons_zero, List.set_cons_succ])
            refine wpAnyH_done (by kernel_rfl) ?_ _
            have HFIN := Lib.hid (add_out (q := j + 1 + (m - j)) HRES.out HM.out hkm (by omega) HO4.out B4.out hl)
            clear hHeld HO4 B4 HO3 B3
            go_wp2_with fail
            go_ret
            exact HFIN.out
      · obtain rfl : j = m := by omega
        have HRES : Hid (addI l n = l.take j ++ [n] ++ l.drop j) := by show _ = _; rw [HADD.out, if_neg (by rw [List.getElem?_eq_none (by rw [HM.out]; exact Nat.le_refl _)]; simp)]
        by_cases hcj : c = j
        · have hjc2 := hcj.symm
          subst hjc2
          go_wp2_with fail
          have hjc : j ≤ j := by omega
          have BW : Hid (Below w.heap.size w w.drew) := (Below.refl _ _).drew
          refine wp_region_held_drew (S := fun _ => True) (by kernel_rfl) trivial (fun hHeld => ?_)
          obtain ⟨wd, hwd⟩ : ∃ wd, w.drew = wd := ⟨_, rfl⟩
          rw [hwd] at BW ⊢
          clear hwd
          refine wpAnyH_takeD (i := 0) (d := 33) (v := ?_) rfl rfl (by kernel_rfl) (by kernel_rfl) (by kernel_rfl) (fun _ _ _ h => h) (Or.inl ⟨by rfl, ?_⟩) (by assumption) ?_; rotate_left
          · intro W hSw; (try dsimp only at hSw); go_simp; (try with_reducible rfl)
          (try simp only [List.set_cons_zero, List.set_cons_succ])
          refine wpAnyH_takeD (i := 1) (d := 34) (v := ?_) rfl rfl (by kernel_rfl) (by kernel_rfl) (by kernel_rfl) (fun _ _ _ h => h) (Or.inl ⟨by rfl, ?_⟩) (by assumption) ?_; rotate_left
          · intro W hSw; (try dsimp only at hSw); go_simp; (try with_reducible rfl)
          (try simp only [List.set_cons_zero, List.set_cons_succ])
          refine wpAnyH_takeD (i := 2) (d := 35) (v := ?_) rfl rfl (by kernel_rfl) (by kernel_rfl) (by kernel_rfl) (fun _ _ _ h => h) (Or.inl ⟨by rfl, ?_⟩) (by assumption) ?_; rotate_left
          · intro W hSw; (try dsimp only at hSw); go_simp; (try with_reducible rfl)
          (try simp only [List.set_cons_zero, List.set_cons_succ])
          refine wpAnyH_takeD (i := 4) (d := 37) (v := ?_) rfl rfl (by kernel_rfl) (by kernel_rfl) (by kernel_rfl) (fun _ _ _ h => h) (Or.inl ⟨by rfl, ?_⟩) (by assumption) ?_; rotate_left
          · intro W hSw; (try dsimp only at hSw); go_simp; (try with_reducible rfl)
          (try simp only [List.set_cons_zero, List.set_cons_succ])
          refine wpAnyH_takeD (i := 7) (d := 40) (v := ?_) rfl rfl (by kernel_rfl) (by kernel_rfl) (by kernel_rfl) (fun _ _ _ h => h) (Or.inl ⟨by rfl, ?_⟩) (by assumption) ?_; rotate_left
          · intro W hSw; (try dsimp only at hSw); go_simp; (try with_reducible rfl)
          (try simp only [List.set_cons_zero, List.set_cons_succ])
          refine wpAnyH_takeD (i := 8) (d := 41) (v := ?_) rfl rfl (by kernel_rfl) (by kernel_rfl) (by kernel_rfl) (fun _ _ _ h => h) (Or.inl ⟨by rfl, ?_⟩) (by assumption) ?_; rotate_left
          · intro W hSw; (try dsimp only at hSw); go_simp; (try with_reducible rfl)
          (try simp only [List.set_cons_zero, List.set_cons_succ])
          refine wpAnyH_takeD (i := 9) (d := 42) (v := ?_) rfl rfl (by kernel_rfl) (by kernel_rfl) (by kernel_rfl) (fun _ _ _ h => h) (Or.inl ⟨by rfl, ?_⟩) (by assumption) ?_; rotate_left
          · intro W hSw; (try dsimp only at hSw); go_simp; (try with_reducible rfl)
          (try simp only [List.set_cons_zero, List.set_cons_succ])
          have hsd : w.heap.size ≤ wd.heap.size := BW.size
          have HBD := Lib.hid BW
          have HT1 : Hid (∀ W, Below w.heap.size w W → ∀ p, a = some p → ∀ i u, (iC (l.take j))[i]? = some u → W.cell? (p.add i) = some u) := fun W hb p hp i u hu => ints_add (H0.out.blw hb) p hp i u (iC_take hu)
          have HT3 : Hid (∀ W, Below w.heap.size w W → ∀ p, a = some p → ∀ i u, (iC (l.drop j))[i]? = some u → W.cell? (p.add i) = some u) := (fun W hb p hp i u hu => absurd hu (drop_none HM.out))
          have HL1 : Hid ((iC (l.take j)).length = j * 1) := by show _ = _; unfold iC; rw [List.length_map, List.length_take, HM.out]; omega
          have HL3 : Hid ((iC (l.drop j)).length = 0 * 1) := by show _ = _; unfold iC; rw [List.length_map, List.length_drop, HM.out]; omega
          have HN1 : Hid (a = none → j = 0 ∧ j = 0) := fun e => by have := HNIL.out e; omega
          have HN3 : Hid (a = none → 0 = 0 ∧ 0 = 0) := (fun _ => ⟨rfl, rfl⟩)
          have A5 : Hid (∀ u ∈ ([.int .i64 n] : List Value), u.oneCell' = true) := by intro u hu; simp only [List.mem_singleton] at hu; subst hu; rfl
          have hb63 : ∀ q : Nat, q ≤ 1099511627777 → q ≤ maxLen ∧ q * 8 ≤ 140737488355328 := fun q hq => by unfold maxLen; omega
          refine wpAnyH_ready (rs := [3, 5]) (by kernel_rfl) (by simp) ?_
          refine AllReadyH.cons rfl (fun K hK => ?_) (AllReadyH.cons rfl (fun K hK => ?_) AllReadyH.nil)
          · refine step_append_src rfl _ _ 32 rfl w.heap.size 3 i0 (.int .i64 0) 1 8 Try.underlying32 HI0.out HZ0.out HZ1.out HZ2.out rfl (by decide) (.slice none 0 0) 0 ([]) rfl (World.ownsRow_nil _ _ _ _) a j j (iC (l.take j)) rfl HN1.out HL1.out (HT1.out _ HBD.out) (iC_one _) (by have := (hb63 j (by omega)).1; omega) (by have := (hb63 j (by omega)).2; omega) HBD.out.size ?_
            intro v1 w1 hown hgr
            rw [Nat.zero_add, List.nil_append] at hown
            obtain ⟨v1a, v1c, rfl⟩ := own_slice hown
            have hbn : Below wd.heap.size wd w1 := (Below.refl _ _).grown hgr (Nat.le_refl _) (fun k e => by cases e)
            have BC1 : Below w.heap.size w w1 := HBD.out.trans (hbn.mono hsd)
            have HO1 := Lib.hid hown
            clear hown hgr hbn
            clear hHeld
            refine hK.out _ _ trivial (fun hHeld => ?_)
            clear hK K
            (try simp only [List.set_cons_zero, List.set_cons_succ])
            refine wpAnyH_ready (rs := [5]) (by kernel_rfl) (by simp) ?_
            refine AllReadyH.cons rfl (fun K hK => ?_) AllReadyH.nil
            go_simp
            obtain ⟨w2, hw2⟩ : ∃ w2, w1.alloc (.cells #[.int .i64 n] 3) = w2 := ⟨_, rfl⟩
            obtain ⟨nb, hnb⟩ : ∃ nb, w1.heap.size = nb := ⟨_, rfl⟩
            have CN : Hid (∀ i u, ([.int .i64 n] : List Value)[i]? = some u → w2.cell? ((⟨nb, 0, none⟩ : Addr).add i) = some u) := by rw [← hw2, ← hnb]; exact one_cell w1 _ _
            have BC : Hid (Below w.heap.size w w2) := by rw [← hw2]; exact BC1.alloc BC1.size _
            have HO2 : Hid (w2.ownsRow w.heap.size 3 1 (.slice v1a j v1c) j (iC (l.take j))) := by rw [← hw2]; exact HO1.out.alloc _
            rw [hw2, hnb]
            clear hw2 hnb BC1 HO1
            clear hHeld
            refine hK.out _ _ trivial (fun hHeld => ?_)
            clear hK K
            (try simp only [List.set_cons_zero, List.set_cons_succ])
            refine wpAnyH_ready (rs := [6]) (by kernel_rfl) (by simp) ?_
            refine AllReadyH.cons rfl (fun K hK => ?_) AllReadyH.nil
            refine step_append_src rfl _ _ 32 rfl w.heap.size 3 i0 (.int .i64 0) 1 8 Try.underlying32 HI0.out HZ0.out HZ1.out HZ2.out rfl (by decide) (.slice v1a j v1c) j (iC (l.take j)) rfl HO2.out (some ⟨nb, 0, none⟩) 1 1 ([.int .i64 n]) rfl (fun e => by cases e) rfl (fun p hp i u hu => by simp only [Option.some.injEq] at hp; subst hp; exact CN.out i u hu) A5.out (hb63 _ (by omega)).1 (hb63 _ (by omega)).2 (BC.out.size) ?_
            intro v3 w3 hown hgr
            obtain ⟨v3a, v3c, rfl⟩ := own_slice hown
            have B3 : Hid (Below w.heap.size w w3) := BC.out.trans (below_own hgr HO2.out BC.out.size)
            have HO3 := Lib.hid hown
            clear hown hgr
            clear hHeld
            refine hK.out _ _ trivial (fun hHeld => ?_)
            clear hK K
            (try simp only [List.set_cons_zero, List.set_cons_succ])
            refine wpAnyH_ready (rs := [10]) (by kernel_rfl) (by simp) ?_
            refine AllReadyH.cons rfl (fun K hK => ?_) AllReadyH.nil
            refine step_append_src rfl _ _ 32 rfl w.heap.size 3 i0 (.int .i64 0) 1 8 Try.underlying32 HI0.out HZ0.out HZ1.out HZ2.out rfl (by decide) (.slice v3a (j + 1) v3c) (j + 1) (iC (l.take j) ++ [.int .i64 n]) rfl HO3.out a 0 0 (iC (l.drop j)) rfl HN3.out HL3.out (HT3.out _ B3.out) (iC_one _) (hb63 _ (by omega)).1 (hb63 _ (by omega)).2 (B3.out.size) ?_
            intro v4 w4 hown hgr
            obtain ⟨v4a, v4c, rfl⟩ := own_slice hown
            have B4 : Hid (Below w.heap.size w w4) := B3.out.trans (below_own hgr HO3.out B3.out.size)
            have HO4 := Lib.hid hown
            clear hown hgr
            clear hHeld
            refine hK.out _ _ trivial (fun hHeld => ?_)
            clear hK K
            (try simp only [List.set_cons_zero, List.set_cons_succ])
            refine wpAnyH_takeD (i := 11) (d := 4) (v := ?_) rfl rfl (by kernel_rfl) (by kernel_rfl) (by kernel_rfl) (fun _ _ _ h => h) (Or.inl ⟨by rfl, ?_⟩) (by assumption) ?_; rotate_left
            · intro W hSw; (try dsimp only at hSw); go_simp; (try with_reducible rfl)
            (try simp only [List.set_cons_zero, List.set_cons_succ])
            refine wpAnyH_done (by kernel_rfl) ?_ _
            have HFIN := Lib.hid (add_out (q := j + 1 + 0) HRES.out HM.out hkm (by omega) HO4.out B4.out hl)
            clear hHeld HO4 B4 HO3 B3
            go_wp2_with fail
            go_ret
            exact HFIN.out
          · go_simp
            obtain ⟨w1, hw1⟩ : ∃ w1, wd.alloc (.cells #[.int .i64 n] 3) = w1 := ⟨_, rfl⟩
            obtain ⟨nb, hnb⟩ : ∃ nb, wd.heap.size = nb := ⟨_, rfl⟩
            have CN0 : ∀ i u, ([.int .i64 n] : List Value)[i]? = some u → w1.cell? ((⟨nb, 0, none⟩ : Addr).add i) = some u := by rw [← hw1, ← hnb]; exact one_cell wd _ _
            have hnz : nb < w1.heap.size := by rw [← hw1, ← hnb]; simp
            have BC1 : Below w.heap.size w w1 := by rw [← hw1]; exact HBD.out.alloc hsd _
            rw [hw1, hnb]
            have HC0 := Lib.hid CN0
            clear hw1 hnb CN0
            clear hHeld
            refine hK.out _ _ trivial (fun hHeld => ?_)
            clear hK K
            (try simp only [List.set_cons_zero, List.set_cons_succ])
            refine wpAnyH_ready (rs := [3]) (by kernel_rfl) (by simp) ?_
            refine AllReadyH.cons rfl (fun K hK => ?_) AllReadyH.nil
            refine step_append_src rfl _ _ 32 rfl w.heap.size 3 i0 (.int .i64 0) 1 8 Try.underlying32 HI0.out HZ0.out HZ1.out HZ2.out rfl (by decide) (.slice none 0 0) 0 ([]) rfl (World.ownsRow_nil _ _ _ _) a j j (iC (l.take j)) rfl HN1.out HL1.out (HT1.out _ BC1) (iC_one _) (by have := (hb63 j (by omega)).1; omega) (by have := (hb63 j (by omega)).2; omega) BC1.size ?_
            intro v1 w2 hown hgr
            rw [Nat.zero_add, List.nil_append] at hown
            obtain ⟨v1a, v1c, rfl⟩ := own_slice hown
            have hbn : Below w1.heap.size w1 w2 := (Below.refl _ _).grown hgr (Nat.le_refl _) (fun k e => by cases e)
            have CN : Hid (∀ i u, ([.int .i64 n] : List Value)[i]? = some u → w2.cell? ((⟨nb, 0, none⟩ : Addr).add i) = some u) := fun i u hu => (hbn.cell (p := (⟨nb, 0, none⟩ : Addr).add i) (by rw [add_block]; exact hnz)).trans (HC0.out i u hu)
            have BC : Hid (Below w.heap.size w w2) := BC1.trans (hbn.mono BC1.size)
            have HO2 := Lib.hid hown
            clear hown hgr hbn BC1 HC0
            clear hHeld
            refine hK.out _ _ trivial (fun hHeld => ?_)
            clear hK K
            (try simp only [List.set_cons_zero, List.set_cons_succ])
            refine wpAnyH_ready (rs := [6]) (by kernel_rfl) (by simp) ?_
            refine AllReadyH.cons rfl (fun K hK => ?_) AllReadyH.nil
            refine step_append_src rfl _ _ 32 rfl w.heap.size 3 i0 (.int .i64 0) 1 8 Try.underlying32 HI0.out HZ0.out HZ1.out HZ2.out rfl (by decide) (.slice v1a j v1c) j (iC (l.take j)) rfl HO2.out (some ⟨nb, 0, none⟩) 1 1 ([.int .i64 n]) rfl (fun e => by cases e) rfl (fun p hp i u hu => by simp only [Option.some.injEq] at hp; subst hp; exact CN.out i u hu) A5.out (hb63 _ (by omega)).1 (hb63 _ (by omega)).2 (BC.out.size) ?_
            intro v3 w3 hown hgr
            obtain ⟨v3a, v3c, rfl⟩ := own_slice hown
            have B3 : Hid (Below w.heap.size w w3) := BC.out.trans (below_own hgr HO2.out BC.out.size)
            have HO3 := Lib.hid hown
            clear hown hgr
            clear hHeld
            refine hK.out _ _ trivial (fun hHeld => ?_)
            clear hK K
            (try simp only [List.set_cons_zero, List.set_cons_succ])
            refine wpAnyH_ready (rs := [10]) (by kernel_rfl) (by simp) ?_
            refine AllReadyH.cons rfl (fun K hK => ?_) AllReadyH.nil
            refine step_append_src rfl _ _ 32 rfl w.heap.size 3 i0 (.int .i64 0) 1 8 Try.underlying32 HI0.out HZ0.out HZ1.out HZ2.out rfl (by decide) (.slice v3a (j + 1) v3c) (j + 1) (iC (l.take j) ++ [.int .i64 n]) rfl HO3.out a 0 0 (iC (l.drop j)) rfl HN3.out HL3.out (HT3.out _ B3.out) (iC_one _) (hb63 _ (by omega)).1 (hb63 _ (by omega)).2 (B3.out.size) ?_
            intro v4 w4 hown hgr
            obtain ⟨v4a, v4c, rfl⟩ := own_slice hown
            have B4 : Hid (Below w.heap.size w w4) := B3.out.trans (below_own hgr HO3.out B3.out.size)
            have HO4 := Lib.hid hown
            clear hown hgr
            clear hHeld
            refine hK.out _ _ trivial (fun hHeld => ?_)
            clear hK K
            (try simp only [List.set_cons_zero, List.set_cons_succ])
            refine wpAnyH_takeD (i := 11) (d := 4) (v := ?_) rfl rfl (by kernel_rfl) (by kernel_rfl) (by kernel_rfl) (fun _ _ _ h => h) (Or.inl ⟨by rfl, ?_⟩) (by assumption) ?_; rotate_left
            · intro W hSw; (try dsimp only at hSw); go_simp; (try with_reducible rfl)
            (try simp only [List.set_cons_zero, List.set_cons_succ])
            refine wpAnyH_done (by kernel_rfl) ?_ _
            have HFIN := Lib.hid (add_out (q := j + 1 + 0) HRES.out HM.out hkm (by omega) HO4.out B4.out hl)
            clear hHeld HO4 B4 HO3 B3
            go_wp2_with fail
            go_ret
            exact HFIN.out
        · cases a with
          | none => exact absurd (HNIL.out rfl).2 (by have := (HNIL.out rfl).1; omega)
          | some ad =>
            go_wp2_with fail
            have hjc : j ≤ c := by omega
            have BW : Hid (Below w.heap.size w w.drew) := (Below.refl _ _).drew
            refine wp_region_held_drew (S := fun _ => True) (by kernel_rfl) trivial (fun hHeld => ?_)
            obtain ⟨wd, hwd⟩ : ∃ wd, w.drew = wd := ⟨_, rfl⟩
            rw [hwd] at BW ⊢
            clear hwd
            refine wpAnyH_takeD (i := 0) (d := 33) (v := ?_) rfl rfl (by kernel_rfl) (by kernel_rfl) (by kernel_rfl) (fun _ _ _ h => h) (Or.inl ⟨by rfl, ?_⟩) (by assumption) ?_; rotate_left
            · intro W hSw; (try dsimp only at hSw); go_simp; (try with_reducible rfl)
            (try simp only [List.set_cons_zero, List.set_cons_succ])
            refine wpAnyH_takeD (i := 1) (d := 34) (v := ?_) rfl rfl (by kernel_rfl) (by kernel_rfl) (by kernel_rfl) (fun _ _ _ h => h) (Or.inl ⟨by rfl, ?_⟩) (by assumption) ?_; rotate_left
            · intro W hSw; (try dsimp only at hSw); go_simp; (try with_reducible rfl)
            (try simp only [List.set_cons_zero, List.set_cons_succ])
            refine wpAnyH_takeD (i := 2) (d := 35) (v := ?_) rfl rfl (by kernel_rfl) (by kernel_rfl) (by kernel_rfl) (fun _ _ _ h => h) (Or.inl ⟨by rfl, ?_⟩) (by assumption) ?_; rotate_left
            · intro W hSw; (try dsimp only at hSw); go_simp; (try with_reducible rfl)
            (try simp only [List.set_cons_zero, List.set_cons_succ])
            refine wpAnyH_takeD (i := 4) (d := 37) (v := ?_) rfl rfl (by kernel_rfl) (by kernel_rfl) (by kernel_rfl) (fun _ _ _ h => h) (Or.inl ⟨by rfl, ?_⟩) (by assumption) ?_; rotate_left
            · intro W hSw; (try dsimp only at hSw); go_simp; (try with_reducible rfl)
            (try simp only [List.set_cons_zero, List.set_cons_succ])
            refine wpAnyH_takeD (i := 7) (d := 40) (v := ?_) rfl rfl (by kernel_rfl) (by kernel_rfl) (by kernel_rfl) (fun _ _ _ h => h) (Or.inl ⟨by rfl, ?_⟩) (by assumption) ?_; rotate_left
            · intro W hSw; (try dsimp only at hSw); go_simp; (try with_reducible rfl)
            (try simp only [List.set_cons_zero, List.set_cons_succ])
            refine wpAnyH_takeD (i := 8) (d := 41) (v := ?_) rfl rfl (by kernel_rfl) (by kernel_rfl) (by kernel_rfl) (fun _ _ _ h => h) (Or.inl ⟨by rfl, ?_⟩) (by assumption) ?_; rotate_left
            · intro W hSw; (try dsimp only at hSw); go_simp; (try with_reducible rfl)
            (try simp only [List.set_cons_zero, List.set_cons_succ])
            refine wpAnyH_takeD (i := 9) (d := 42) (v := ?_) rfl rfl (by kernel_rfl) (by kernel_rfl) (by kernel_rfl) (fun _ _ _ h => h) (Or.inl ⟨by rfl, ?_⟩) (by assumption) ?_; rotate_left
            · intro W hSw; (try dsimp only at hSw); go_simp; (try with_reducible rfl)
            (try simp only [List.set_cons_zero, List.set_cons_succ])
            have hsd : w.heap.size ≤ wd.heap.size := BW.size
            have HBD := Lib.hid BW
            have HT1 : Hid (∀ W, Below w.heap.size w W → ∀ p, (some ad : Option Addr) = some p → ∀ i u, (iC (l.take j))[i]? = some u → W.cell? (p.add i) = some u) := fun W hb p hp i u hu => ints_add (H0.out.blw hb) p hp i u (iC_take hu)
            have HT3 : Hid (∀ W, Below w.heap.size w W → ∀ p, (some (ad.add j) : Option Addr) = some p → ∀ i u, (iC (l.drop j))[i]? = some u → W.cell? (p.add i) = some u) := (fun W hb p hp i u hu => absurd hu (drop_none HM.out))
            have HL1 : Hid ((iC (l.take j)).length = j * 1) := by show _ = _; unfold iC; rw [List.length_map, List.length_take, HM.out]; omega
            have HL3 : Hid ((iC (l.drop j)).length = 0 * 1) := by show _ = _; unfold iC; rw [List.length_map, List.length_drop, HM.out]; omega
            have HN1 : Hid ((some ad : Option Addr) = none → j = 0 ∧ c = 0) := fun e => by have := HNIL.out e; omega
            have HN3 : Hid ((some (ad.add j) : Option Addr) = none → 0 = 0 ∧ (c - j) = 0) := (fun e => by cases e)
            have A5 : Hid (∀ u ∈ ([.int .i64 n] : List Value), u.oneCell' = true) := by intro u hu; simp only [List.mem_singleton] at hu; subst hu; rfl
            have hb63 : ∀ q : Nat, q ≤ 1099511627777 → q ≤ maxLen ∧ q * 8 ≤ 140737488355328 := fun q hq => by unfold maxLen; omega
            refine wpAnyH_ready (rs := [3, 5]) (by kernel_rfl) (by simp) ?_
            refine AllReadyH.cons rfl (fun K hK => ?_) (AllReadyH.cons rfl (fun K hK => ?_) AllReadyH.nil)
            · refine step_append_src rfl _ _ 32 rfl w.heap.size 3 i0 (.int .i64 0) 1 8 Try.underlying32 HI0.out HZ0.out HZ1.out HZ2.out rfl (by decide) (.slice none 0 0) 0 ([]) rfl (World.ownsRow_nil _ _ _ _) (some ad : Option Addr) j c (iC (l.take j)) rfl HN1.out HL1.out (HT1.out _ HBD.out) (iC_one _) (by have := (hb63 j (by omega)).1; omega) (by have := (hb63 j (by omega)).2; omega) HBD.out.size ?_
              intro v1 w1 hown hgr
              rw [Nat.zero_add, List.nil_append] at hown
              obtain ⟨v1a, v1c, rfl⟩ := own_slice hown
              have hbn : Below wd.heap.size wd w1 := (Below.refl _ _).grown hgr (Nat.le_refl _) (fun k e => by cases e)
              have BC1 : Below w.heap.size w w1 := HBD.out.trans (hbn.mono hsd)
              have HO1 := Lib.hid hown
              clear hown hgr hbn
              clear hHeld
              refine hK.out _ _ trivial (fun hHeld => ?_)
              clear hK K
              (try simp only [List.set_cons_zero, List.set_cons_succ])
              refine wpAnyH_ready (rs := [5]) (by kernel_rfl) (by simp) ?_
              refine AllReadyH.cons rfl (fun K hK => ?_) AllReadyH.nil
              go_simp
              obtain ⟨w2, hw2⟩ : ∃ w2, w1.alloc (.cells #[.int .i64 n] 3) = w2 := ⟨_, rfl⟩
              obtain ⟨nb, hnb⟩ : ∃ nb, w1.heap.size = nb := ⟨_, rfl⟩
              have CN : Hid (∀ i u, ([.int .i64 n] : List Value)[i]? = some u → w2.cell? ((⟨nb, 0, none⟩ : Addr).add i) = some u) := by rw [← hw2, ← hnb]; exact one_cell w1 _ _
              have BC : Hid (Below w.heap.size w w2) := by rw [← hw2]; exact BC1.alloc BC1.size _
              have HO2 : Hid (w2.ownsRow w.heap.size 3 1 (.slice v1a j v1c) j (iC (l.take j))) := by rw [← hw2]; exact HO1.out.alloc _
              rw [hw2, hnb]
              clear hw2 hnb BC1 HO1
              clear hHeld
              refine hK.out _ _ trivial (fun hHeld => ?_)
              clear hK K
              (try simp only [List.set_cons_zero, List.set_cons_succ])
              refine wpAnyH_ready (rs := [6]) (by kernel_rfl) (by simp) ?_
              refine AllReadyH.cons rfl (fun K hK => ?_) AllReadyH.nil
              refine step_append_src rfl _ _ 32 rfl w.heap.size 3 i0 (.int .i64 0) 1 8 Try.underlying32 HI0.out HZ0.out HZ1.out HZ2.out rfl (by decide) (.slice v1a j v1c) j (iC (l.take j)) rfl HO2.out (some ⟨nb, 0, none⟩) 1 1 ([.int .i64 n]) rfl (fun e => by cases e) rfl (fun p hp i u hu => by simp only [Option.some.injEq] at hp; subst hp; exact CN.out i u hu) A5.out (hb63 _ (by omega)).1 (hb63 _ (by omega)).2 (BC.out.size) ?_
              intro v3 w3 hown hgr
              obtain ⟨v3a, v3c, rfl⟩ := own_slice hown
              have B3 : Hid (Below w.heap.size w w3) := BC.out.trans (below_own hgr HO2.out BC.out.size)
              have HO3 := Lib.hid hown
              clear hown hgr
              clear hHeld
              refine hK.out _ _ trivial (fun hHeld => ?_)
              clear hK K
              (try simp only [List.set_cons_zero, List.set_cons_succ])
              refine wpAnyH_ready (rs := [10]) (by kernel_rfl) (by simp) ?_
              refine AllReadyH.cons rfl (fun K hK => ?_) AllReadyH.nil
              refine step_append_src rfl _ _ 32 rfl w.heap.size 3 i0 (.int .i64 0) 1 8 Try.underlying32 HI0.out HZ0.out HZ1.out HZ2.out rfl (by decide) (.slice v3a (j + 1) v3c) (j + 1) (iC (l.take j) ++ [.int .i64 n]) rfl HO3.out (some (ad.add j) : Option Addr) 0 (c - j) (iC (l.drop j)) rfl HN3.out HL3.out (HT3.out _ B3.out) (iC_one _) (hb63 _ (by omega)).1 (hb63 _ (by omega)).2 (B3.out.size) ?_
              intro v4 w4 hown hgr
              obtain ⟨v4a, v4c, rfl⟩ := own_slice hown
              have B4 : Hid (Below w.heap.size w w4) := B3.out.trans (below_own hgr HO3.out B3.out.size)
              have HO4 := Lib.hid hown
              clear hown hgr
              clear hHeld
              refine hK.out _ _ trivial (fun hHeld => ?_)
              clear hK K
              (try simp only [List.set_cons_zero, List.set_cons_succ])
              refine wpAnyH_takeD (i := 11) (d := 4) (v := ?_) rfl rfl (by kernel_rfl) (by kernel_rfl) (by kernel_rfl) (fun _ _ _ h => h) (Or.inl ⟨by rfl, ?_⟩) (by assumption) ?_; rotate_left
              · intro W hSw; (try dsimp only at hSw); go_simp; (try with_reducible rfl)
              (try simp only [List.set_cons_zero, List.set_cons_succ])
              refine wpAnyH_done (by kernel_rfl) ?_ _
              have HFIN := Lib.hid (add_out (q := j + 1 + 0) HRES.out HM.out hkm (by omega) HO4.out B4.out hl)
              clear hHeld HO4 B4 HO3 B3
              go_wp2_with fail
              go_ret
              exact HFIN.out
            · go_simp
              obtain ⟨w1, hw1⟩ : ∃ w1, wd.alloc (.cells #[.int .i64 n] 3) = w1 := ⟨_, rfl⟩
              obtain ⟨nb, hnb⟩ : ∃ nb, wd.heap.size = nb := ⟨_, rfl⟩
              have CN0 : ∀ i u, ([.int .i64 n] : List Value)[i]? = some u → w1.cell? ((⟨nb, 0, none⟩ : Addr).add i) = some u := by rw [← hw1, ← hnb]; exact one_cell wd _ _
              have hnz : nb < w1.heap.size := by rw [← hw1, ← hnb]; simp
              have BC1 : Below w.heap.size w w1 := by rw [← hw1]; exact HBD.out.alloc hsd _
              rw [hw1, hnb]
              have HC0 := Lib.hid CN0
              clear hw1 hnb CN0
              clear hHeld
              refine hK.out _ _ trivial (fun hHeld => ?_)
              clear hK K
              (try simp only [List.set_cons_zero, List.set_cons_succ])
              refine wpAnyH_ready (rs := [3]) (by kernel_rfl) (by simp) ?_
              refine AllReadyH.cons rfl (fun K hK => ?_) AllReadyH.nil
              refine step_append_src rfl _ _ 32 rfl w.heap.size 3 i0 (.int .i64 0) 1 8 Try.underlying32 HI0.out HZ0.out HZ1.out HZ2.out rfl (by decide) (.slice none 0 0) 0 ([]) rfl (World.ownsRow_nil _ _ _ _) (some ad : Option Addr) j c (iC (l.take j)) rfl HN1.out HL1.out (HT1.out _ BC1) (iC_one _) (by have := (hb63 j (by omega)).1; omega) (by have := (hb63 j (by omega)).2; omega) BC1.size ?_
              intro v1 w2 hown hgr
              rw [Nat.zero_add, List.nil_append] at hown
              obtain ⟨v1a, v1c, rfl⟩ := own_slice hown
              have hbn : Below w1.heap.size w1 w2 := (Below.refl _ _).grown hgr (Nat.le_refl _) (fun k e => by cases e)
              have CN : Hid (∀ i u, ([.int .i64 n] : List Value)[i]? = some u → w2.cell? ((⟨nb, 0, none⟩ : Addr).add i) = some u) := fun i u hu => (hbn.cell (p := (⟨nb, 0, none⟩ : Addr).add i) (by rw [add_block]; exact hnz)).trans (HC0.out i u hu)
              have BC : Hid (Below w.heap.size w w2) := BC1.trans (hbn.mono BC1.size)
              have HO2 := Lib.hid hown
              clear hown hgr hbn BC1 HC0
              clear hHeld
              refine hK.out _ _ trivial (fun hHeld => ?_)
              clear hK K
              (try simp only [List.set_cons_zero, List.set_cons_succ])
              refine wpAnyH_ready (rs := [6]) (by kernel_rfl) (by simp) ?_
              refine AllReadyH.cons rfl (fun K hK => ?_) AllReadyH.nil
              refine step_append_src rfl _ _ 32 rfl w.heap.size 3 i0 (.int .i64 0) 1 8 Try.underlying32 HI0.out HZ0.out HZ1.out HZ2.out rfl (by decide) (.slice v1a j v1c) j (iC (l.take j)) rfl HO2.out (some ⟨nb, 0, none⟩) 1 1 ([.int .i64 n]) rfl (fun e => by cases e) rfl (fun p hp i u hu => by simp only [Option.some.injEq] at hp; subst hp; exact CN.out i u hu) A5.out (hb63 _ (by omega)).1 (hb63 _ (by omega)).2 (BC.out.size) ?_
              intro v3 w3 hown hgr
              obtain ⟨v3a, v3c, rfl⟩ := own_slice hown
              have B3 : Hid (Below w.heap.size w w3) := BC.out.trans (below_own hgr HO2.out BC.out.size)
              have HO3 := Lib.hid hown
              clear hown hgr
              clear hHeld
              refine hK.out _ _ trivial (fun hHeld => ?_)
              clear hK K
              (try simp only [List.set_cons_zero, List.set_cons_succ])
              refine wpAnyH_ready (rs := [10]) (by kernel_rfl) (by simp) ?_
              refine AllReadyH.cons rfl (fun K hK => ?_) AllReadyH.nil
              refine step_append_src rfl _ _ 32 rfl w.heap.size 3 i0 (.int .i64 0) 1 8 Try.underlying32 HI0.out HZ0.out HZ1.out HZ2.out rfl (by decide) (.slice v3a (j + 1) v3c) (j + 1) (iC (l.take j) ++ [.int .i64 n]) rfl HO3.out (some (ad.add j) : Option Addr) 0 (c - j) (iC (l.drop j)) rfl HN3.out HL3.out (HT3.out _ B3.out) (iC_one _) (hb63 _ (by omega)).1 (hb63 _ (by omega)).2 (B3.out.size) ?_
              intro v4 w4 hown hgr
              obtain ⟨v4a, v4c, rfl⟩ := own_slice hown
              have B4 : Hid (Below w.heap.size w w4) := B3.out.trans (below_own hgr HO3.out B3.out.size)
              have HO4 := Lib.hid hown
              clear hown hgr
              clear hHeld
              refine hK.out _ _ trivial (fun hHeld => ?_)
              clear hK K
              (try simp only [List.set_cons_zero, List.set_cons_succ])
              refine wpAnyH_takeD (i := 11) (d := 4) (v := ?_) rfl rfl (by kernel_rfl) (by kernel_rfl) (by kernel_rfl) (fun _ _ _ h => h) (Or.inl ⟨by rfl, ?_⟩) (by assumption) ?_; rotate_left
              · intro W hSw; (try dsimp only at hSw); go_simp; (try with_reducible rfl)
              (try simp only [List.set_cons_zero, List.set_cons_succ])
              refine wpAnyH_done (by kernel_rfl) ?_ _
              have HFIN := Lib.hid (add_out (q := j + 1 + 0) HRES.out HM.out hkm (by omega) HO4.out B4.out hl)
              clear hHeld HO4 B4 HO3 B3
              go_wp2_with fail
              go_ret
              exact HFIN.out
end Go.Proofs.Ytjkjmkplcjfogaa
