/- Law SchemaNames. -/
import Derived.Test.YtjcbmeannhafjaaScNmMath
import Derived.Test.YtjcbmeannhafjaaScTabMem
import Derived.Test.YtjcbmeannhafjaaPdNew
import Derived.Test.YtjcbmeannhafjaaScBegun
import Derived.Test.YtjcbmeannhafjaaScRName
import Derived.Test.YtjcbmeannhafjaaPdBindMem
namespace Go.Proofs.Ytjcbmeannhafjaa
open Go.RowKit Go.Deep

theorem own_monoW {w : World} {base base' : Nat} {e : TypeId} {size : Nat} {v : Value} {n : Nat} {xs : List Value} (h : w.ownsRow base e size v n xs) (hb : base' ≤ base) : w.ownsRow base' e size v n xs := by
  refine ⟨h.1, ?_⟩
  rcases h.2 with h0 | ⟨g, cap, cur, e1, hg, hr⟩
  · exact .inl h0
  · exact .inr ⟨g, cap, cur, e1, Nat.le_trans hb hg, hr⟩
theorem names_xy {n : Nat} {id : Int} (name : ByteArray) (h : name.size ≤ maxLen) : namesT (plnL n id ++ [nmX name]) ∧ namesT (plnL n id ++ [nmY name]) := by
  have hp : namesT (plnL n id) := by
    intro t ht
    have h := List.mem_of_mem_take ht
    simp only [List.mem_cons, List.not_mem_nil, or_false] at h
    have hm : ∀ k, k ≤ 8 → k ≤ maxLen := fun k hk => by unfold maxLen; omega
    rcases h with rfl | rfl | rfl | rfl <;> refine ⟨hm _ (show (_ : Nat) ≤ 8 by simp [tP, tT, tM, tA, ByteArray.size]), fun c hc => ?_⟩ <;> simp only [tP, tT, tM, tA, List.mem_cons, List.not_mem_nil, or_false] at hc
    · rcases hc with rfl | rfl <;> exact hm _ (show (_ : Nat) ≤ 8 by simp [ByteArray.size])
    · rcases hc with rfl | rfl | rfl | rfl <;> exact hm _ (show (_ : Nat) ≤ 8 by simp [ByteArray.size])
    · rcases hc with rfl | rfl <;> exact hm _ (show (_ : Nat) ≤ 8 by simp [ByteArray.size])
    · rcases hc with rfl; exact hm _ (show (_ : Nat) ≤ 8 by simp [ByteArray.size])
  have hm : (5 : Nat) ≤ maxLen := by unfold maxLen; omega
  have hm2 : (2 : Nat) ≤ maxLen := by unfold maxLen; omega
  refine ⟨fun t ht => ?_, fun t ht => ?_⟩
  · rcases List.mem_append.1 ht with ht | ht
    · exact hp t ht
    · rw [List.mem_singleton.1 ht]
      exact ⟨h, fun c hc => by simp only [nmX, List.mem_singleton] at hc; rw [hc]; exact hm2⟩
  · rcases List.mem_append.1 ht with ht | ht
    · exact hp t ht
    · rw [List.mem_singleton.1 ht]
      exact ⟨hm, fun c hc => by simp only [nmY, List.mem_singleton] at hc; rw [hc]; exact h⟩
theorem nb_cases (nb : Bool) (fz : Int) : nb = false ∨ (nb = true ∧ 0 ≤ fz) ∨ (nb = true ∧ ¬ 0 ≤ fz) := by
  cases nb
  · exact .inl rfl
  · by_cases h : 0 ≤ fz
    · exact .inr (.inl ⟨rfl, h⟩)
    · exact .inr (.inr ⟨rfl, h⟩)
def SchBox (W : World) (b : Nat) (ver : Int) (v : Value) : Prop := W.cell? ⟨b, 0, none⟩ = some (.int .i64 ver) ∧ W.cell? ⟨b, 1, none⟩ = some v ∧ W.frozen? ⟨b, 1, none⟩ = false

set_option linter.unusedSimpArgs false in
set_option maxRecDepth 100000 in
set_option maxHeartbeats 8000000 in
theorem snames_walk (cv : Value) (cn : Nat) (name : ByteArray) (w : World) (hcv : BytesAt w cv cn) (hnm : name.size ≤ 140737488351232) : Calls Try.prog 4 #[cv, .string name] w fun e w' => e = .returned (.bool true) ∧ Below w.heap.size w w' := by
  have HNM : Hid (name.size ≤ maxLen) := by show _ ≤ _; unfold maxLen; omega
  have HN := Lib.hid (cNew_90 cv cn w hcv)
  obtain ⟨sa, sc, rfl, _⟩ := hcv
  have HBG : Hid (∀ W, Calls Try.prog 10 #[] W fun e w' => e = .returned (.bool true) ∧ Below W.heap.size W w') := begun7_any
  clear hnm
  go_enter Try.func4, Try.ntmps4
  go_wp2_with fail
  refine HN.out.mono ?_
  rintro e w1 ⟨bc, rfl, hb1, hbc, hok⟩
  have hlt : bc < w1.heap.size := hok.lt.1
  have B1 : Hid (Below w.heap.size w w1) := hb1
  have hs1 := hb1.size
  have HP := Lib.hid (cPlain_any bc w1.heap.size w1 hok)
  clear hb1 hok HN
  go_wp2_with fail
  refine HP.out.mono ?_
  rintro e w2 ⟨lo, sb, tb, n, id, ver, rfl, hsok, hsi⟩
  have HSO := Lib.hid hsok
  have hn2 : 2 ≤ n := hsok.n2
  have hn4 : n ≤ 4 := hsok.n4
  have HNC : Hid (n = 2 ∨ n = 3 ∨ n = 4) := hsok.cases
  have hlo1 : w1.heap.size ≤ lo := hsi.hlo.1
  obtain ⟨t1, t2, -, -, -⟩ := hsi.htb
  have M2 : Hid (Below w.heap.size w w2) := B1.out.trans (hsi.mv.below (B := w.heap.size) (by omega) (by omega))
  have hs2 := hsi.mv.size
  have HSC : Hid (Sc (fun b => lo ≤ b) w2 (.agg #[.int .i64 ver, .slice (some ⟨tb, 0, none⟩) n 4]) ⟨ver, plnL n id⟩) := hsi.sc hn4
  have hsl : SlR tabK (fun b => lo ≤ b) w2 (.slice (some ⟨tb, 0, none⟩) n 4) (plnL n id) := by
    obtain ⟨tv, e, h⟩ := HSC.out
    simp only [Value.agg.injEq, Array.mk.injEq, List.cons.injEq, and_true, true_and] at e
    rw [e]; exact h
  obtain ⟨X, hX, hXo, hXc⟩ := tx_of hsl
  have hXl : X.length = n := by rw [← plnL_len id hn4, ← hX, List.length_map]
  have HX := Lib.hid hX
  have HXO := Lib.hid hXo
  have HXC := Lib.hid hXc
  have HXL := Lib.hid hXl
  obtain ⟨w3, hw3⟩ : ∃ w3, w2.alloc (.cells #[.int .i64 ver, .slice (some ⟨tb, 0, none⟩) n 4] 25) = w3 := ⟨_, rfl⟩
  obtain ⟨bs, hbs⟩ : ∃ bs, w2.heap.size = bs := ⟨_, rfl⟩
  have hs3 : w3.heap.size = bs + 1 := by rw [← hw3, ← hbs]; simp
  have z0 : w3.cell? ⟨bs, 0, none⟩ = some (.int .i64 ver) := by subst hbs; subst hw3; go_simp
  have z1 : w3.cell? ⟨bs, 1, none⟩ = some (.slice (some ⟨tb, 0, none⟩) n 4) := by subst hbs; subst hw3; go_simp
  have B23 : Hid (Below w2.heap.size w2 w3) := by rw [← hw3]; exact (Below.refl _ _).alloc (Nat.le_refl _) _
  have HW3 := Lib.hid hw3
  have HBS := Lib.hid hbs
  clear hsok hsi hsl hX hXo hXc hXl hw3 hbs HP
  go_wp2_with fail
  rw [HW3.out, HBS.out]
  clear HW3
  go_upto_region 2 with fail
  go_cut [6, 7] (fun s6 s7 wx => ∃ b6 b7 : Nat, s6 = .pointer (some ⟨b6, 0, none⟩) ∧ s7 = .pointer (some ⟨b7, 0, none⟩) ∧ bs < b6 ∧ bs < b7 ∧ b6 ≠ b7 ∧ b6 < wx.heap.size ∧ b7 < wx.heap.size ∧ Hid (Below w3.heap.size w3 wx) ∧ Hid (SchBox wx b6 ver (.slice (some ⟨tb, 0, none⟩) n 4)) ∧ Hid (SchBox wx b7 ver (.slice (some ⟨tb, 0, none⟩) n 4)))
  case first =>
    go_region
    all_goals
      go_wp2_with fail
      go_meet
      refine ⟨_, _, rfl, rfl, by omega, by omega, by omega, by simp; omega, by simp; omega, ?_, ?_, ?_⟩
      · exact (((Below.refl _ _).alloc (Nat.le_refl _) _).alloc (by simp) _).drew
      · exact ⟨by go_simp, by go_simp, by go_simp⟩
      · exact ⟨by go_simp, by go_simp, by go_simp⟩
  case rest =>
  obtain ⟨w4, rfl⟩ : ∃ x, x = wc := ⟨wc, rfl⟩
  obtain ⟨b6, b7, rfl, rfl, l6, l7, l67, k6, k7, B34, X6, X7⟩ := hcut
  have B24 : Hid (Below w2.heap.size w2 w4) := below_go B23.out B34.out
  have hs4 := B34.out.size
  have hbs2 : w2.heap.size = bs := HBS.out
  obtain ⟨e60, e61, f61⟩ := X6.out
  obtain ⟨e70, e71, f71⟩ := X7.out
  have y0 := (B34.out.cell (p := ⟨bs, 0, none⟩) (show bs < _ by omega)).trans z0
  have y1 := (B34.out.cell (p := ⟨bs, 1, none⟩) (show bs < _ by omega)).trans z1
  have HQ : Hid (∀ W, Below w4.heap.size w4 W → (W.cell? ⟨bs, 0, none⟩ = some (.int .i64 ver) ∧ W.cell? ⟨bs, 1, none⟩ = some (.slice (some ⟨tb, 0, none⟩) n 4)) ∧ SchBox W b6 ver (.slice (some ⟨tb, 0, none⟩) n 4) ∧ SchBox W b7 ver (.slice (some ⟨tb, 0, none⟩) n 4)) := fun W hb =>
    ⟨⟨(hb.cell (p := ⟨bs, 0, none⟩) (show bs < _ by omega)).trans y0, (hb.cell (p := ⟨bs, 1, none⟩) (show bs < _ by omega)).trans y1⟩,
     ⟨(hb.cell (p := ⟨b6, 0, none⟩) k6).trans e60, (hb.cell (p := ⟨b6, 1, none⟩) k6).trans e61, (hb.frozen (p := ⟨b6, 1, none⟩) k6).trans f61⟩,
     ⟨(hb.cell (p := ⟨b7, 0, none⟩) k7).trans e70, (hb.cell (p := ⟨b7, 1, none⟩) k7).trans e71, (hb.frozen (p := ⟨b7, 1, none⟩) k7).trans f71⟩⟩
  have HXC4 : Hid (∀ W, Below w4.heap.size w4 W → ∀ j u, (txCells X)[j]? = some u → W.cell? ((⟨tb, 0, none⟩ : Addr).add j) = some u) := fun W hb j u hj => by
    have ha : (⟨tb, 0, none⟩ : Addr).add j = ⟨tb, j, none⟩ := by unfold Addr.add; split <;> simp_all
    have h := HXC.out j u hj
    rw [ha] at h ⊢
    exact (((below_go B24.out hb)).cell (p := ⟨tb, j, none⟩) (show tb < _ by omega)).trans h
  have hinfo : (Try.prog.info? 40).map (fun i => (i.zero, i.size, i.bytes)) = some (some (.agg #[.string ⟨#[]⟩, .slice none 0 0, .int .i64 0, .slice none 0 0, .slice none 0 0]), 5, 96) := by kernel_rfl
  obtain ⟨i0, hi, hz0, hz1, hz2⟩ := info_parts hinfo
  have HI0 := Lib.hid hi
  have HZ0 := Lib.hid hz0
  have HZ1 := Lib.hid hz1
  have HZ2 := Lib.hid hz2
  have HLX : Hid ((txCells X).length = n * 5) := by show _ = _; rw [length_txCells, HXL.out]
  have HOX := Lib.hid (txs_one X)
  clear hi hz0 hz1 hz2 hinfo z0 z1 X6 X7 e60 e61 f61 e70 e71 f71
  have B40 : Hid (Below w4.heap.size w4 w4) := Below.refl _ _
  have N1 : Hid (w4.ownsRow w4.heap.size 40 5 (.slice none 0 0) 0 []) := ⟨rfl, .inl ⟨rfl, rfl⟩⟩
  have A1 : Hid (0 + n ≤ maxLen) := by show _ ≤ _; unfold maxLen; omega
  have A2 : Hid ((0 + n) * 96 ≤ 140737488355328) := by show _ ≤ _; omega
  have A3 := Lib.hid (HXC4.out w4 B40.out)
  have A6 : Hid (∀ (v' : Value) (w' : World), w'.ownsRow w4.heap.size 40 5 v' n ([] ++ txCells X) → w4.grownBy w' (Value.slice none 0 0).ownBlock → (w'.ownsRow w4.heap.size 40 5 v' n (txCells X) ∧ Below w4.heap.size w4 w')) := fun v' w' h1 h2 =>
    ⟨by simpa using h1, (Below.refl _ _).grown h2 (Nat.le_refl _) (fun kk e => by cases e)⟩
  go_upto_region 4 with (first
    | (at_builtin
       refine wpList_append_own _ rfl _ _ 23 rfl w4.heap.size 40 i0 (.agg #[.string ⟨#[]⟩, .slice none 0 0, .int .i64 0, .slice none 0 0, .slice none 0 0]) 5 96 Try.underlying23 HI0.out HZ0.out HZ1.out HZ2.out rfl (by decide) _ _ _ rfl N1.out ⟨tb, 0, none⟩ n 4 (txCells X) rfl HLX.out A3.out HOX.out A1.out A2.out (Nat.le_refl _) ?_
       intro vw5 w5 hown hgr _
       obtain ⟨aw5, cw5, ev⟩ := own_slice hown
       subst ev
       rw [Nat.zero_add] at hown
       simp only [Nat.zero_add]
       have HXX := Lib.hid (A6.out _ w5 hown hgr)
       clear hown hgr
       have Ow5 : Hid (w5.ownsRow w4.heap.size 40 5 (.slice aw5 n cw5) n (txCells X)) := HXX.out.1
       have Dw5 : Hid (Below w4.heap.size w4 w5) := HXX.out.2
       have hzw5 := Dw5.out.size
       clear HXX N1 A1 A2 A3 A6
       obtain ⟨x0, hx0⟩ : ∃ x : TX, (⟨some ⟨w5.heap.size, 0, none⟩, 1, none, 0, none, 0, nmX name⟩ : TX) = x := ⟨_, rfl⟩
       have HXE0 := Lib.hid hx0
       have A1 : Hid (n + 1 ≤ maxLen) := by show _ ≤ _; unfold maxLen; omega
       have A2 : Hid ((n + 1) * 96 ≤ 140737488355328) := by show _ ≤ _; omega
       have A3 : Hid (∀ O O2 : Obj, w4.heap.size ≤ ((w5.alloc O).alloc O2).heap.size) := fun O O2 => by simp; omega
       have A4 : Hid (∀ (O : Obj) t (j : Nat) (u : Value), ([.string name, .slice (some ⟨w5.heap.size, 0, none⟩) 1 1, .int .i64 1, .slice none 0 0, .slice none 0 0] : List Value)[j]? = some u → ((w5.alloc O).alloc (.cells #[.string name, .slice (some ⟨w5.heap.size, 0, none⟩) 1 1, .int .i64 1, .slice none 0 0, .slice none 0 0] t)).cell? ((⟨w5.heap.size + 1, 0, none⟩ : Addr).add j) = some u) := fun O t j u hj => by
         have ha : (⟨w5.heap.size + 1, 0, none⟩ : Addr).add j = ⟨w5.heap.size + 1, j, none⟩ := by unfold Addr.add; split <;> simp_all
         rw [ha]
         have h := World.cell?_alloc_mark (w5.alloc O) #[.string name, .slice (some ⟨w5.heap.size, 0, none⟩) 1 1, .int .i64 1, .slice none 0 0, .slice none 0 0] t (0, 0) j
         rw [World.size_alloc] at h
         refine h.trans ?_
         simpa using hj
       have A5 : Hid (∀ u ∈ ([.string name, .slice (some ⟨w5.heap.size, 0, none⟩) 1 1, .int .i64 1, .slice none 0 0, .slice none 0 0] : List Value), u.oneCell' = true) := by
         show ∀ u ∈ _, _
         intro u hu
         simp only [List.mem_cons, List.not_mem_nil, or_false] at hu
         rcases hu with rfl | rfl | rfl | rfl | rfl <;> rfl
       have A6 : Hid (∀ (t1 : TypeId) (O2 : Obj) (v' : Value) (w' : World), w'.ownsRow w4.heap.size 40 5 v' (n + 1) (txCells X ++ [.string name, .slice (some ⟨w5.heap.size, 0, none⟩) 1 1, .int .i64 1, .slice none 0 0, .slice none 0 0]) → ((w5.alloc (.cells #[.string ⟨#[105, 100]⟩, .int .i64 4] t1)).alloc O2).grownBy w' (Value.slice aw5 n cw5).ownBlock → (w'.ownsRow w4.heap.size 40 5 v' (n + 1) (txCells (X ++ [x0])) ∧ Below w4.heap.size w4 w' ∧ x0.Ok (fun b => w4.heap.size ≤ b) w')) := fun t1 O2 v' w' h1 h2 => by
         have hkr := Ow5.out.lt
         have e : x0.cells = [.string name, .slice (some ⟨w5.heap.size, 0, none⟩) 1 1, .int .i64 1, .slice none 0 0, .slice none 0 0] := by rw [← HXE0.out]; rfl
         have hbl : w'.heap[w5.heap.size]? = ((w5.alloc (.cells #[.string ⟨#[105, 100]⟩, .int .i64 4] t1)).alloc O2).heap[w5.heap.size]? := h2.block _ (by simp; omega) (fun e => by have := (hkr _ e.symm).2; omega)
         have g0 : w'.cell? ⟨w5.heap.size, 0, none⟩ = some (.string ⟨#[105, 100]⟩) := (World.cell?_of_block (a := ⟨w5.heap.size, 0, none⟩) hbl).trans (by go_simp)
         have g1 : w'.cell? ⟨w5.heap.size, 1, none⟩ = some (.int .i64 4) := (World.cell?_of_block (a := ⟨w5.heap.size, 1, none⟩) hbl).trans (by go_simp)
         have hsz := h2.size
         simp only [World.size_alloc] at hsz
         refine ⟨by rw [txCells_snoc, e]; exact h1, Dw5.out.trans ((((Below.refl w4.heap.size w5).alloc (by omega) _).alloc (by simp only [World.size_alloc]; omega) _).grown h2 (by simp only [World.size_alloc]; omega) (fun kk e => (hkr kk e).1)), ?_⟩
         rw [← HXE0.out]
         refine ⟨⟨some ⟨w5.heap.size, 0, none⟩, 1, rfl, ⟨Nat.le_refl _, by decide, fun e => (by cases e), (show (1 : Nat) ≤ 17592186044416 by decide)⟩, fun j hj => ?_⟩, SlR.nil _ _ _, PdS.nil _ _⟩
         have hj0 : j = 0 := by simp [nmX, nmY] at hj; omega
         subst hj0
         exact ⟨_, 0, rfl, by omega, by omega, g0, g1⟩
       skip)
    | (at_builtin
       refine wpList_append_own _ rfl _ _ 23 rfl w4.heap.size 40 i0 (.agg #[.string ⟨#[]⟩, .slice none 0 0, .int .i64 0, .slice none 0 0, .slice none 0 0]) 5 96 Try.underlying23 HI0.out HZ0.out HZ1.out HZ2.out rfl (by decide) _ _ _ rfl ((Ow5.out.alloc _).alloc _) ⟨w5.heap.size + 1, 0, none⟩ 1 1 [.string name, .slice (some ⟨w5.heap.size, 0, none⟩) 1 1, .int .i64 1, .slice none 0 0, .slice none 0 0] rfl rfl (A4.out _ _) A5.out A1.out A2.out (A3.out _ _) ?_
       intro vw6 w6 hown hgr _
       obtain ⟨aw6, cw6, ev⟩ := own_slice hown
       subst ev
       have HXX := Lib.hid (A6.out _ _ _ w6 hown hgr)
       clear hown hgr
       have Ow6 : Hid (w6.ownsRow w4.heap.size 40 5 (.slice aw6 (n + 1) cw6) (n + 1) (txCells (X ++ [x0]))) := HXX.out.1
       have Dw6 : Hid (Below w4.heap.size w4 w6) := HXX.out.2.1
       have OK0 : Hid (x0.Ok (fun b => w4.heap.size ≤ b) w6) := HXX.out.2.2
       have hzw6 := Dw6.out.size
       clear HXX A1 A2 A3 A4 A5 A6 hx0 Ow5 Dw5
       obtain ⟨⟨y0, y1⟩, ⟨e60, e61, f61⟩, ⟨e70, e71, f71⟩⟩ := HQ.out w6 Dw6.out
       skip))
  obtain ⟨w7, hw7⟩ : ∃ w7, w6.setCell ⟨b6, 1, none⟩ (.slice aw6 (n + 1) cw6) = w7 := ⟨_, rfl⟩
  have hs7 : w7.heap.size = w6.heap.size := by rw [← hw7]; simp
  have k7o : ∀ b, b ≠ b6 → w7.heap[b]? = w6.heap[b]? := fun b hb => by rw [← hw7]; exact Below.heap_setCell _ _ _ _ hb
  have B37 : Hid (Below w3.heap.size w3 w7) := by rw [← hw7]; exact (below_go B34.out (Dw6.out)).setCell (show w3.heap.size ≤ b6 by omega) _
  have x60 : w7.cell? ⟨b6, 0, none⟩ = some (.int .i64 ver) := by subst hw7; go_simp
  have x61 : w7.cell? ⟨b6, 1, none⟩ = some (.slice aw6 (n + 1) cw6) := by rw [← hw7]; exact World.cell?_setCell_same _ _ _ (by rw [e61])
  have y0 : w7.cell? ⟨bs, 0, none⟩ = some (.int .i64 ver) := (World.cell?_of_block (a := ⟨bs, 0, none⟩) (k7o bs (by omega))).trans y0
  have y1 : w7.cell? ⟨bs, 1, none⟩ = some (.slice (some ⟨tb, 0, none⟩) n 4) := (World.cell?_of_block (a := ⟨bs, 1, none⟩) (k7o bs (by omega))).trans y1
  have e70 : w7.cell? ⟨b7, 0, none⟩ = some (.int .i64 ver) := (World.cell?_of_block (a := ⟨b7, 0, none⟩) (k7o b7 (by omega))).trans e70
  have e71 : w7.cell? ⟨b7, 1, none⟩ = some (.slice (some ⟨tb, 0, none⟩) n 4) := (World.cell?_of_block (a := ⟨b7, 1, none⟩) (k7o b7 (by omega))).trans e71
  have f71 : w7.frozen? ⟨b7, 1, none⟩ = false := (World.frozen?_of_block (a := ⟨b7, 1, none⟩) (k7o b7 (by omega))).trans f71
  have HQ7 : Hid (∀ W, Below w7.heap.size w7 W → (W.cell? ⟨bs, 0, none⟩ = some (.int .i64 ver) ∧ W.cell? ⟨bs, 1, none⟩ = some (.slice (some ⟨tb, 0, none⟩) n 4)) ∧ (W.cell? ⟨b6, 0, none⟩ = some (.int .i64 ver) ∧ W.cell? ⟨b6, 1, none⟩ = some (.slice aw6 (n + 1) cw6)) ∧ (W.cell? ⟨b7, 0, none⟩ = some (.int .i64 ver) ∧ W.cell? ⟨b7, 1, none⟩ = some (.slice (some ⟨tb, 0, none⟩) n 4) ∧ W.frozen? ⟨b7, 1, none⟩ = false)) := fun W hb =>
    ⟨⟨(hb.cell (p := ⟨bs, 0, none⟩) (show bs < _ by omega)).trans y0, (hb.cell (p := ⟨bs, 1, none⟩) (show bs < _ by omega)).trans y1⟩,
     ⟨(hb.cell (p := ⟨b6, 0, none⟩) (show b6 < _ by omega)).trans x60, (hb.cell (p := ⟨b6, 1, none⟩) (show b6 < _ by omega)).trans x61⟩,
     ⟨(hb.cell (p := ⟨b7, 0, none⟩) (show b7 < _ by omega)).trans e70, (hb.cell (p := ⟨b7, 1, none⟩) (show b7 < _ by omega)).trans e71, (hb.frozen (p := ⟨b7, 1, none⟩) (show b7 < _ by omega)).trans f71⟩⟩
  have HXC7 : Hid (∀ j u, (txCells X)[j]? = some u → w7.cell? ((⟨tb, 0, none⟩ : Addr).add j) = some u) := fun j u hj => by
    have ha : (⟨tb, 0, none⟩ : Addr).add j = ⟨tb, j, none⟩ := by unfold Addr.add; split <;> simp_all
    have h := HXC.out j u hj
    rw [ha] at h ⊢
    exact ((below_go2 B23.out (Nat.le_refl _) (B37.out.mono (by omega))).cell (p := ⟨tb, j, none⟩) (show tb < _ by omega)).trans h
  have HW7 := Lib.hid hw7
  have HK7 := Lib.hid k7o
  clear hw7 k7o e60 e61 f61
  rw [HW7.out]
  have N1 : Hid (w7.ownsRow w7.heap.size 40 5 (.slice none 0 0) 0 []) := ⟨rfl, .inl ⟨rfl, rfl⟩⟩
  have A1 : Hid (0 + n ≤ maxLen) := by show _ ≤ _; unfold maxLen; omega
  have A2 : Hid ((0 + n) * 96 ≤ 140737488355328) := by show _ ≤ _; omega
  have A3 := Lib.hid (HXC7.out)
  have A6 : Hid (∀ (v' : Value) (w' : World), w'.ownsRow w7.heap.size 40 5 v' n ([] ++ txCells X) → w7.grownBy w' (Value.slice none 0 0).ownBlock → (w'.ownsRow w7.heap.size 40 5 v' n (txCells X) ∧ Below w7.heap.size w7 w')) := fun v' w' h1 h2 =>
    ⟨by simpa using h1, (Below.refl _ _).grown h2 (Nat.le_refl _) (fun kk e => by cases e)⟩
  go_upto_region 5 with (first
    | (at_builtin
       refine wpList_append_own _ rfl _ _ 23 rfl w7.heap.size 40 i0 (.agg #[.string ⟨#[]⟩, .slice none 0 0, .int .i64 0, .slice none 0 0, .slice none 0 0]) 5 96 Try.underlying23 HI0.out HZ0.out HZ1.out HZ2.out rfl (by decide) _ _ _ rfl N1.out ⟨tb, 0, none⟩ n 4 (txCells X) rfl HLX.out A3.out HOX.out A1.out A2.out (Nat.le_refl _) ?_
       intro vw8 w8 hown hgr _
       obtain ⟨aw8, cw8, ev⟩ := own_slice hown
       subst ev
       rw [Nat.zero_add] at hown
       simp only [Nat.zero_add]
       have HXX := Lib.hid (A6.out _ w8 hown hgr)
       clear hown hgr
       have Ow8 : Hid (w8.ownsRow w7.heap.size 40 5 (.slice aw8 n cw8) n (txCells X)) := HXX.out.1
       have Dw8 : Hid (Below w7.heap.size w7 w8) := HXX.out.2
       have hzw8 := Dw8.out.size
       clear HXX N1 A1 A2 A3 A6
       obtain ⟨x1, hx1⟩ : ∃ x : TX, (⟨some ⟨w8.heap.size, 0, none⟩, 1, none, 0, none, 0, nmY name⟩ : TX) = x := ⟨_, rfl⟩
       have HXE1 := Lib.hid hx1
       have A1 : Hid (n + 1 ≤ maxLen) := by show _ ≤ _; unfold maxLen; omega
       have A2 : Hid ((n + 1) * 96 ≤ 140737488355328) := by show _ ≤ _; omega
       have A3 : Hid (∀ O O2 : Obj, w7.heap.size ≤ ((w8.alloc O).alloc O2).heap.size) := fun O O2 => by simp; omega
       have A4 : Hid (∀ (O : Obj) t (j : Nat) (u : Value), ([.string ⟨#[111, 116, 104, 101, 114]⟩, .slice (some ⟨w8.heap.size, 0, none⟩) 1 1, .int .i64 1, .slice none 0 0, .slice none 0 0] : List Value)[j]? = some u → ((w8.alloc O).alloc (.cells #[.string ⟨#[111, 116, 104, 101, 114]⟩, .slice (some ⟨w8.heap.size, 0, none⟩) 1 1, .int .i64 1, .slice none 0 0, .slice none 0 0] t)).cell? ((⟨w8.heap.size + 1, 0, none⟩ : Addr).add j) = some u) := fun O t j u hj => by
         have ha : (⟨w8.heap.size + 1, 0, none⟩ : Addr).add j = ⟨w8.heap.size + 1, j, none⟩ := by unfold Addr.add; split <;> simp_all
         rw [ha]
         have h := World.cell?_alloc_mark (w8.alloc O) #[.string ⟨#[111, 116, 104, 101, 114]⟩, .slice (some ⟨w8.heap.size, 0, none⟩) 1 1, .int .i64 1, .slice none 0 0, .slice none 0 0] t (0, 0) j
         rw [World.size_alloc] at h
         refine h.trans ?_
         simpa using hj
       have A5 : Hid (∀ u ∈ ([.string ⟨#[111, 116, 104, 101, 114]⟩, .slice (some ⟨w8.heap.size, 0, none⟩) 1 1, .int .i64 1, .slice none 0 0, .slice none 0 0] : List Value), u.oneCell' = true) := by
         show ∀ u ∈ _, _
         intro u hu
         simp only [List.mem_cons, List.not_mem_nil, or_false] at hu
         rcases hu with rfl | rfl | rfl | rfl | rfl <;> rfl
       have A6 : Hid (∀ (t1 : TypeId) (O2 : Obj) (v' : Value) (w' : World), w'.ownsRow w7.heap.size 40 5 v' (n + 1) (txCells X ++ [.string ⟨#[111, 116, 104, 101, 114]⟩, .slice (some ⟨w8.heap.size, 0, none⟩) 1 1, .int .i64 1, .slice none 0 0, .slice none 0 0]) → ((w8.alloc (.cells #[.string name, .int .i64 4] t1)).alloc O2).grownBy w' (Value.slice aw8 n cw8).ownBlock → (w'.ownsRow w7.heap.size 40 5 v' (n + 1) (txCells (X ++ [x1])) ∧ Below w7.heap.size w7 w' ∧ x1.Ok (fun b => w4.heap.size ≤ b) w')) := fun t1 O2 v' w' h1 h2 => by
         have hkr := Ow8.out.lt
         have e : x1.cells = [.string ⟨#[111, 116, 104, 101, 114]⟩, .slice (some ⟨w8.heap.size, 0, none⟩) 1 1, .int .i64 1, .slice none 0 0, .slice none 0 0] := by rw [← HXE1.out]; rfl
         have hbl : w'.heap[w8.heap.size]? = ((w8.alloc (.cells #[.string name, .int .i64 4] t1)).alloc O2).heap[w8.heap.size]? := h2.block _ (by simp; omega) (fun e => by have := (hkr _ e.symm).2; omega)
         have g0 : w'.cell? ⟨w8.heap.size, 0, none⟩ = some (.string name) := (World.cell?_of_block (a := ⟨w8.heap.size, 0, none⟩) hbl).trans (by go_simp)
         have g1 : w'.cell? ⟨w8.heap.size, 1, none⟩ = some (.int .i64 4) := (World.cell?_of_block (a := ⟨w8.heap.size, 1, none⟩) hbl).trans (by go_simp)
         have hsz := h2.size
         simp only [World.size_alloc] at hsz
         refine ⟨by rw [txCells_snoc, e]; exact h1, Dw8.out.trans ((((Below.refl w7.heap.size w8).alloc (by omega) _).alloc (by simp only [World.size_alloc]; omega) _).grown h2 (by simp only [World.size_alloc]; omega) (fun kk e => (hkr kk e).1)), ?_⟩
         rw [← HXE1.out]
         refine ⟨⟨some ⟨w8.heap.size, 0, none⟩, 1, rfl, ⟨Nat.le_refl _, by decide, fun e => (by cases e), (show (1 : Nat) ≤ 17592186044416 by decide)⟩, fun j hj => ?_⟩, SlR.nil _ _ _, PdS.nil _ _⟩
         have hj0 : j = 0 := by simp [nmX, nmY] at hj; omega
         subst hj0
         exact ⟨_, 0, rfl, by omega, by omega, g0, g1⟩
       skip)
    | (at_builtin
       refine wpList_append_own _ rfl _ _ 23 rfl w7.heap.size 40 i0 (.agg #[.string ⟨#[]⟩, .slice none 0 0, .int .i64 0, .slice none 0 0, .slice none 0 0]) 5 96 Try.underlying23 HI0.out HZ0.out HZ1.out HZ2.out rfl (by decide) _ _ _ rfl ((Ow8.out.alloc _).alloc _) ⟨w8.heap.size + 1, 0, none⟩ 1 1 [.string ⟨#[111, 116, 104, 101, 114]⟩, .slice (some ⟨w8.heap.size, 0, none⟩) 1 1, .int .i64 1, .slice none 0 0, .slice none 0 0] rfl rfl (A4.out _ _) A5.out A1.out A2.out (A3.out _ _) ?_
       intro vw9 w9 hown hgr _
       obtain ⟨aw9, cw9, ev⟩ := own_slice hown
       subst ev
       have HXX := Lib.hid (A6.out _ _ _ w9 hown hgr)
       clear hown hgr
       have Ow9 : Hid (w9.ownsRow w7.heap.size 40 5 (.slice aw9 (n + 1) cw9) (n + 1) (txCells (X ++ [x1]))) := HXX.out.1
       have Dw9 : Hid (Below w7.heap.size w7 w9) := HXX.out.2.1
       have OK1 : Hid (x1.Ok (fun b => w4.heap.size ≤ b) w9) := HXX.out.2.2
       have hzw9 := Dw9.out.size
       clear HXX A1 A2 A3 A4 A5 A6 hx1 Ow8 Dw8
       obtain ⟨⟨y0, y1⟩, ⟨x60, x61⟩, ⟨e70, e71, f71⟩⟩ := HQ7.out w9 Dw9.out
       skip))
  obtain ⟨w10, hw10⟩ : ∃ w10, w9.setCell ⟨b7, 1, none⟩ (.slice aw9 (n + 1) cw9) = w10 := ⟨_, rfl⟩
  have hs10 : w10.heap.size = w9.heap.size := by rw [← hw10]; simp
  have k10o : ∀ b, b ≠ b7 → w10.heap[b]? = w9.heap[b]? := fun b hb => by rw [← hw10]; exact Below.heap_setCell _ _ _ _ hb
  have B310 : Hid (Below w3.heap.size w3 w10) := by rw [← hw10]; exact (B37.out.trans (Dw9.out.mono (by omega))).setCell (show w3.heap.size ≤ b7 by omega) _
  have z70 : w10.cell? ⟨b7, 0, none⟩ = some (.int .i64 ver) := by subst hw10; go_simp
  have z71 : w10.cell? ⟨b7, 1, none⟩ = some (.slice aw9 (n + 1) cw9) := by rw [← hw10]; exact World.cell?_setCell_same _ _ _ (by rw [e71])
  have y0 : w10.cell? ⟨bs, 0, none⟩ = some (.int .i64 ver) := (World.cell?_of_block (a := ⟨bs, 0, none⟩) (k10o bs (by omega))).trans y0
  have y1 : w10.cell? ⟨bs, 1, none⟩ = some (.slice (some ⟨tb, 0, none⟩) n 4) := (World.cell?_of_block (a := ⟨bs, 1, none⟩) (k10o bs (by omega))).trans y1
  have x60 : w10.cell? ⟨b6, 0, none⟩ = some (.int .i64 ver) := (World.cell?_of_block (a := ⟨b6, 0, none⟩) (k10o b6 (by omega))).trans x60
  have x61 : w10.cell? ⟨b6, 1, none⟩ = some (.slice aw6 (n + 1) cw6) := (World.cell?_of_block (a := ⟨b6, 1, none⟩) (k10o b6 (by omega))).trans x61
  have HQ10 : Hid (∀ W, Below w10.heap.size w10 W → (W.cell? ⟨bs, 0, none⟩ = some (.int .i64 ver) ∧ W.cell? ⟨bs, 1, none⟩ = some (.slice (some ⟨tb, 0, none⟩) n 4)) ∧ (W.cell? ⟨b6, 0, none⟩ = some (.int .i64 ver) ∧ W.cell? ⟨b6, 1, none⟩ = some (.slice aw6 (n + 1) cw6)) ∧ (W.cell? ⟨b7, 0, none⟩ = some (.int .i64 ver) ∧ W.cell? ⟨b7, 1, none⟩ = some (.slice aw9 (n + 1) cw9))) := fun W hb =>
    ⟨⟨(hb.cell (p := ⟨bs, 0, none⟩) (show bs < _ by omega)).trans y0, (hb.cell (p := ⟨bs, 1, none⟩) (show bs < _ by omega)).trans y1⟩,
     ⟨(hb.cell (p := ⟨b6, 0, none⟩) (show b6 < _ by omega)).trans x60, (hb.cell (p := ⟨b6, 1, none⟩) (show b6 < _ by omega)).trans x61⟩,
     ⟨(hb.cell (p := ⟨b7, 0, none⟩) (show b7 < _ by omega)).trans z70, (hb.cell (p := ⟨b7, 1, none⟩) (show b7 < _ by omega)).trans z71⟩⟩
  have Z0 : Hid (Below w2.heap.size w2 w10) := below_go2 B23.out (Nat.le_refl _) (B310.out.mono (by omega))
  have Z1 : Hid (∀ k, w4.heap.size ≤ k → k < w6.heap.size → w10.heap[k]? = w6.heap[k]?) := fun k h1 h2 => (k10o k (by omega)).trans ((Dw9.out.block k (by omega)).trans (HK7.out k (by omega)))
  have Z2 : Hid (∀ k, w4.heap.size ≤ k → k < w9.heap.size → w10.heap[k]? = w9.heap[k]?) := fun k h1 h2 => k10o k (by omega)
  have HSB : Hid (Sc (fun b => lo ≤ b) w10 (.agg #[.int .i64 ver, .slice (some ⟨tb, 0, none⟩) n 4]) ⟨ver, plnL n id⟩) := HSC.out.below Z0.out
  have hXK : ∀ x ∈ X, x.Ok (fun b => lo ≤ b) w10 := fun x hx => (HXO.out x hx).keep Z0.out.size fun k _ hk => Z0.out.block k hk
  have hln : ∀ x : TX, (X ++ [x]).length = n + 1 := fun x => by rw [List.length_append, HXL.out]; rfl
  have HSX : Hid (Sc (fun b => lo ≤ b) w10 (.agg #[.int .i64 ver, .slice aw6 (n + 1) cw6]) ⟨ver, plnL n id ++ [nmX name]⟩) := by
    refine ⟨_, rfl, ?_⟩
    have ho := own_blkW Ow6.out Z1.out
    rw [← hln x0] at ho
    have h := tx_own (P := fun b => lo ≤ b) ho (fun x hx => ?_) (fun b hb => by omega) (by rw [hln x0]; omega)
    · rw [hln x0, List.map_append, HX.out, List.map_singleton] at h
      rw [show x0.t = nmX name from by rw [← HXE0.out]] at h
      exact h
    · rcases List.mem_append.1 hx with hx | hx
      · exact hXK x hx
      · rw [List.mem_singleton.1 hx]
        exact (OK0.out.keep (by omega) Z1.out).weak (fun k hk => by omega)
  have HSY : Hid (Sc (fun b => lo ≤ b) w10 (.agg #[.int .i64 ver, .slice aw9 (n + 1) cw9]) ⟨ver, plnL n id ++ [nmY name]⟩) := by
    refine ⟨_, rfl, ?_⟩
    have ho := own_blkW (own_monoW Ow9.out (base' := w4.heap.size) (by omega)) Z2.out
    rw [← hln x1] at ho
    have h := tx_own (P := fun b => lo ≤ b) ho (fun x hx => ?_) (fun b hb => by omega) (by rw [hln x1]; omega)
    · rw [hln x1, List.map_append, HX.out, List.map_singleton] at h
      rw [show x1.t = nmY name from by rw [← HXE1.out]] at h
      exact h
    · rcases List.mem_append.1 hx with hx | hx
      · exact hXK x hx
      · rw [List.mem_singleton.1 hx]
        exact (OK1.out.keep (by omega) Z2.out).weak (fun k hk => by omega)
  have HW10 := Lib.hid hw10
  have HNT : Hid (namesT (plnL n id ++ [nmX name]) ∧ namesT (plnL n id ++ [nmY name])) := names_xy name HNM.out
  have HHY : Hid (0 ≤ ver ∧ ver ≤ 2) := HSO.out.hv
  have HID : Hid (id = 4 ∨ id = 5) := HSO.out.hid
  have HCX : Hid (∀ W, Below w10.heap.size w10 W → Calls Try.prog 11 #[.agg #[.int .i64 ver, .slice aw6 (n + 1) cw6]] W fun e w' => e = .returned (.int .i64 (if nameB name = false ∨ 0 ≤ fndL name (plnL n id) 0 then 70 else 0)) ∧ Below W.heap.size W w') := fun W hb => by
    have h := sCheck_any _ _ W (HSX.out.below hb) HNT.out.1
    rw [check_x HNC.out HID.out HHY.out] at h; exact h
  have HCY : Hid (∀ W, Below w10.heap.size w10 W → Calls Try.prog 11 #[.agg #[.int .i64 ver, .slice aw9 (n + 1) cw9]] W fun e w' => e = .returned (.int .i64 (if nameB name = false then 70 else 0)) ∧ Below W.heap.size W w') := fun W hb => by
    have h := sCheck_any _ _ W (HSY.out.below hb) HNT.out.2
    rw [check_y HNC.out HID.out HHY.out] at h; exact h
  have HNA : Hid (∀ W, Calls Try.prog 14 #[.string name] W fun e w' => e = .returned (.bool (nameB name)) ∧ W = w') := fun W => rName_any name W
  have HFA : Hid (∀ W, Below w10.heap.size w10 W → Calls Try.prog 15 #[.agg #[.int .i64 ver, .slice (some ⟨tb, 0, none⟩) n 4], .string name] W fun e w' => e = .returned (.int .i64 (fndL name (plnL n id) 0)) ∧ Below W.heap.size W w') := fun W hb => rFind_any _ _ name W (HSB.out.below hb)
  obtain ⟨fz, hfz⟩ : ∃ fz, fndL name (plnL n id) 0 = fz := ⟨_, rfl⟩
  obtain ⟨nb, hnb⟩ : ∃ nb, nameB name = nb := ⟨_, rfl⟩
  rw [hfz, hnb] at HCX
  rw [hfz] at HFA
  rw [hnb] at HCY HNA
  have BF : Hid (Below w.heap.size w w10) := M2.out.trans (Z0.out.mono (by omega))
  clear hw10 k10o e70 e71 f71 hXK hfz hnb hln HNM HSO HSC HX HXO HXC HXL B23 HBS HNT HHY HID HSX HSY HSB Z0 Z1 Z2 B310 B37 HQ7 HXC7 HW7 HK7 HQ HXC4 B24 B34 B40 HI0 HZ0 HZ1 HZ2 HLX HOX Dw6 Dw9 Ow6 Ow9 OK0 OK1 HXE0 HXE1 hzw6 hzw9
  rw [HW10.out]
  clear HW10
  have hww : w.heap.size ≤ w10.heap.size := BF.out.size
  clear t1 t2 hlo1 hs1 hs2 hs3 hs4 hs7 hs10 l6 l7 l67 k6 k7 hbs2 hlt hbc
  obtain ⟨⟨y0, y1⟩, -, -⟩ := HQ10.out w10 (Below.refl _ _)
  rcases nb_cases nb fz with rfl | ⟨rfl, hz⟩ | ⟨rfl, hz⟩
  · have HCX1 : Hid (∀ W, Below w10.heap.size w10 W → Calls Try.prog 11 #[.agg #[.int .i64 ver, .slice aw6 (n + 1) cw6]] W fun e w' => e = .returned (.int .i64 70) ∧ Below W.heap.size W w') := fun W hb => by
      have h := HCX.out W hb
      rw [if_pos (Or.inl rfl)] at h; exact h
    have HCY1 : Hid (∀ W, Below w10.heap.size w10 W → Calls Try.prog 11 #[.agg #[.int .i64 ver, .slice aw9 (n + 1) cw9]] W fun e w' => e = .returned (.int .i64 70) ∧ Below W.heap.size W w') := fun W hb => by
      have h := HCY.out W hb
      rw [if_pos rfl] at h; exact h
    clear HCX HCY
    go_wp2_with fail
    refine (HNA.out _).mono ?_
    rintro e w' ⟨rfl, rfl⟩
    have B11 : Hid (Below w10.heap.size w10 w10) := Below.refl _ _
    go_wp2_with fail
    refine (HNA.out _).mono ?_
    rintro e w' ⟨rfl, rfl⟩
    clear HNA HFA
    go_wp2_with fail
    refine (HBG.out _).mono ?_
    rintro e w12 ⟨rfl, hb⟩
    have B12 : Hid (Below w10.heap.size w10 w12) := below_go B11.out hb
    clear hb HBG
    obtain ⟨-, ⟨x60, x61⟩, -⟩ := HQ10.out w12 B12.out
    go_wp2_with fail
    refine (HCX1.out _ B12.out).mono ?_
    rintro e w13 ⟨rfl, hb⟩
    have B13 : Hid (Below w10.heap.size w10 w13) := below_go B12.out hb
    clear hb x60 x61 HCX1
    obtain ⟨-, -, ⟨z70, z71⟩⟩ := HQ10.out w13 B13.out
    go_wp2_with fail
    refine (HCY1.out _ B13.out).mono ?_
    rintro e w14 ⟨rfl, hb⟩
    have B14 : Hid (Below w10.heap.size w10 w14) := below_go B13.out hb
    clear hb z70 z71 HCY1
    go_wp2_with fail
    go_ret
    exact ⟨rfl, below_go BF.out B14.out⟩
  · have HCX1 : Hid (∀ W, Below w10.heap.size w10 W → Calls Try.prog 11 #[.agg #[.int .i64 ver, .slice aw6 (n + 1) cw6]] W fun e w' => e = .returned (.int .i64 70) ∧ Below W.heap.size W w') := fun W hb => by
      have h := HCX.out W hb
      rw [if_pos (Or.inr hz)] at h; exact h
    have HCY1 : Hid (∀ W, Below w10.heap.size w10 W → Calls Try.prog 11 #[.agg #[.int .i64 ver, .slice aw9 (n + 1) cw9]] W fun e w' => e = .returned (.int .i64 0) ∧ Below W.heap.size W w') := fun W hb => by
      have h := HCY.out W hb
      rw [if_neg (by simp)] at h; exact h
    clear HCX HCY
    go_wp2_with fail
    refine (HNA.out _).mono ?_
    rintro e w' ⟨rfl, rfl⟩
    have d0 : decide (0 ≤ fz) = true := by simpa using hz
    clear hz
    go_wp2_with fail
    refine (HFA.out _ (Below.refl _ _)).mono ?_
    rintro e w11 ⟨rfl, hb⟩
    have B11 : Hid (Below w10.heap.size w10 w11) := hb
    clear hb
    go_wp2_with fail
    refine (HNA.out _).mono ?_
    rintro e w' ⟨rfl, rfl⟩
    clear HNA HFA
    go_wp2_with fail
    refine (HBG.out _).mono ?_
    rintro e w12 ⟨rfl, hb⟩
    have B12 : Hid (Below w10.heap.size w10 w12) := below_go B11.out hb
    clear hb HBG
    obtain ⟨-, ⟨x60, x61⟩, -⟩ := HQ10.out w12 B12.out
    go_wp2_with fail
    refine (HCX1.out _ B12.out).mono ?_
    rintro e w13 ⟨rfl, hb⟩
    have B13 : Hid (Below w10.heap.size w10 w13) := below_go B12.out hb
    clear hb x60 x61 HCX1
    obtain ⟨-, -, ⟨z70, z71⟩⟩ := HQ10.out w13 B13.out
    go_wp2_with fail
    refine (HCY1.out _ B13.out).mono ?_
    rintro e w14 ⟨rfl, hb⟩
    have B14 : Hid (Below w10.heap.size w10 w14) := below_go B13.out hb
    clear hb z70 z71 HCY1
    go_wp2_with fail
    go_ret
    exact ⟨rfl, below_go BF.out B14.out⟩
  · have HCX1 : Hid (∀ W, Below w10.heap.size w10 W → Calls Try.prog 11 #[.agg #[.int .i64 ver, .slice aw6 (n + 1) cw6]] W fun e w' => e = .returned (.int .i64 0) ∧ Below W.heap.size W w') := fun W hb => by
      have h := HCX.out W hb
      rw [if_neg (by simp; omega)] at h; exact h
    have HCY1 : Hid (∀ W, Below w10.heap.size w10 W → Calls Try.prog 11 #[.agg #[.int .i64 ver, .slice aw9 (n + 1) cw9]] W fun e w' => e = .returned (.int .i64 0) ∧ Below W.heap.size W w') := fun W hb => by
      have h := HCY.out W hb
      rw [if_neg (by simp)] at h; exact h
    clear HCX HCY
    go_wp2_with fail
    refine (HNA.out _).mono ?_
    rintro e w' ⟨rfl, rfl⟩
    have d0 : decide (0 ≤ fz) = false := by simp; omega
    clear hz
    go_wp2_with fail
    refine (HFA.out _ (Below.refl _ _)).mono ?_
    rintro e w11 ⟨rfl, hb⟩
    have B11 : Hid (Below w10.heap.size w10 w11) := hb
    clear hb
    go_wp2_with fail
    refine (HNA.out _).mono ?_
    rintro e w' ⟨rfl, rfl⟩
    clear HNA HFA
    go_wp2_with fail
    refine (HBG.out _).mono ?_
    rintro e w12 ⟨rfl, hb⟩
    have B12 : Hid (Below w10.heap.size w10 w12) := below_go B11.out hb
    clear hb HBG
    obtain ⟨-, ⟨x60, x61⟩, -⟩ := HQ10.out w12 B12.out
    go_wp2_with fail
    refine (HCX1.out _ B12.out).mono ?_
    rintro e w13 ⟨rfl, hb⟩
    have B13 : Hid (Below w10.heap.size w10 w13) := below_go B12.out hb
    clear hb x60 x61 HCX1
    obtain ⟨-, -, ⟨z70, z71⟩⟩ := HQ10.out w13 B13.out
    go_wp2_with fail
    refine (HCY1.out _ B13.out).mono ?_
    rintro e w14 ⟨rfl, hb⟩
    have B14 : Hid (Below w10.heap.size w10 w14) := below_go B13.out hb
    clear hb z70 z71 HCY1
    go_wp2_with fail
    go_ret
    exact ⟨rfl, below_go BF.out B14.out⟩
end Go.Proofs.Ytjcbmeannhafjaa
