/- Law ValueRows. -/
import Derived.Test.YthlamhlbeabjdaaLawJudges
import Derived.Test.YthlamhlbeabjdaaRows2
import Derived.Test.YthlamhlbeabjdaaRRow
namespace Go.Proofs.Ythlamhlbeabjdaa
open Go.RowKit Go.Deep

theorem own_some {w : World} {base : Nat} {e : TypeId} {size : Nat} {v : Value} {n : Nat} {xs : List Value} (hn : 0 < n) (h : w.ownsRow base e size v n xs) : ∃ g cap, v = .slice (some ⟨g, 0, none⟩) n cap ∧ w.ownsRow base e size (.slice (some ⟨g, 0, none⟩) n cap) n xs := by
  rcases h.2 with ⟨_, h0⟩ | ⟨g, cap, cur, hv, _⟩
  · omega
  · exact ⟨g, cap, hv, by rw [← hv]; exact h⟩

set_option maxHeartbeats 2000000 in
theorem rows_walk (cv : Value) (cn : Nat) (av : Value) (la : List V) (bv : Value) (lb : List V) (w : World) (hcv : BytesAt w cv cn) (hra : RowAt w av la) (hrb : RowAt w bv lb) : Calls Try.prog 7 #[cv, av, bv] w fun e w' => e = .returned (.bool true) ∧ Below w.heap.size w w' := by
  have hinfo : (Try.prog.info? 38).map (fun i => (i.zero, i.size, i.bytes)) = some (some (.slice none 0 0), 1, 24) := by kernel_rfl
  obtain ⟨i0, hi, hz0, hz1, hz2⟩ := info_parts hinfo
  have HI := Lib.hid hi
  have HZ0 := Lib.hid hz0
  have HZ1 := Lib.hid hz1
  have HZ2 := Lib.hid hz2
  have HN := Lib.hid (cNew_any cv cn w hcv)
  obtain ⟨qa, qc, rfl, _⟩ := hcv
  obtain ⟨aa, ac, ea⟩ : ∃ a c, av = .slice a la.length c := by obtain ⟨a, c, e, _⟩ := hra; exact ⟨a, c, e⟩
  obtain ⟨ba, bc', eb⟩ : ∃ a c, bv = .slice a lb.length c := by obtain ⟨a, c, e, _⟩ := hrb; exact ⟨a, c, e⟩
  subst ea eb
  have HRA := Lib.hid hra
  have HRB := Lib.hid hrb
  have HB : Hid (∀ W, Calls Try.prog 13 #[] W fun e w' => e = .returned (.bool true) ∧ Below W.heap.size W w') := begun_any
  clear hi hz0 hz1 hz2 hinfo hra hrb
  go_enter Try.func7, Try.ntmps7
  go_wp2_with fail
  refine HN.out.mono ?_
  rintro e w1 ⟨bc, rfl, hb1, hbc, hok⟩
  have hs1 := hb1.size
  have HR := Lib.hid (lRows_any bc w1.heap.size w1 hok)
  have HB1 := Lib.hid hb1
  have hbl := hok.lt
  clear hok HN hb1
  go_wp2_with fail
  refine HR.out.mono ?_
  rintro e w2 ⟨v, L, rfl, hL6, hinv⟩
  obtain ⟨va, vc, hv5⟩ := own_slice hinv.own
  subst hv5
  have HINV := Lib.hid hinv
  have hs2 : w1.heap.size ≤ w2.heap.size := hinv.mv.size
  clear HR hinv
  have A1 : Hid (L.length + 2 ≤ maxLen) := by show _ ≤ _; unfold maxLen; omega
  have A2 : Hid ((L.length + 2) * 24 ≤ 140737488355328) := by show _ ≤ _; omega
  have A3 : Hid (∀ O : Obj, w1.heap.size ≤ (w2.alloc O).heap.size) := fun O => by simp; omega
  have A4 : Hid (∀ (t : TypeId) (j : Nat) (u : Value), ([.slice aa la.length ac, .slice ba lb.length bc'] : List Value)[j]? = some u → (w2.alloc (.cells #[.slice aa la.length ac, .slice ba lb.length bc'] t)).cell? ((⟨w2.heap.size, 0, none⟩ : Addr).add j) = some u) := by
    intro t j u hj
    have ha : (⟨w2.heap.size, 0, none⟩ : Addr).add j = ⟨w2.heap.size, j, none⟩ := by unfold Addr.add; split <;> simp_all
    rw [ha]
    refine (World.cell?_alloc_mark w2 #[.slice aa la.length ac, .slice ba lb.length bc'] t (0, 0) j).trans ?_
    rw [← hj]; simp
  have A5 : Hid (∀ u ∈ ([.slice aa la.length ac, .slice ba lb.length bc'] : List Value), u.oneCell' = true) := by
    intro u hu
    simp only [List.mem_cons, List.not_mem_nil, or_false] at hu
    rcases hu with rfl | rfl <;> rfl
  go_wp2_with (at_builtin; refine wpList_append_own _ rfl _ _ 39 rfl w1.heap.size 38 i0 (.slice none 0 0) 1 24 Try.underlying39 HI.out HZ0.out HZ1.out HZ2.out rfl (by decide) _ _ _ rfl (HINV.out.own.alloc _) ⟨w2.heap.size, 0, none⟩ 2 2 [.slice aa la.length ac, .slice ba lb.length bc'] rfl rfl (A4.out _) A5.out A1.out A2.out (A3.out _) ?_; intro v' w5 hown2 hgr _; obtain ⟨g, cap, e, hown⟩ := own_some (by omega) hown2; subst e; have HOWN := Lib.hid hown; have HGR := Lib.hid hgr; clear hown2 hgr hown)
  -- what the slice holds
  obtain ⟨LL, hLL⟩ : ∃ LL : List E, LL = L ++ [(.slice aa la.length ac, la), (.slice ba lb.length bc', lb)] := ⟨_, rfl⟩
  have hlen : LL.length = L.length + 2 := by rw [hLL]; simp
  have hkr := HINV.out.own.lt
  have BW : Hid (Below w.heap.size w w5) := by
    have h1 : Below w.heap.size w1 w2 := HINV.out.mv.below hbc hs1
    have h2 : Below w.heap.size w2 w5 := Below.grown (Below.alloc (Below.refl _ _) (by omega) _) HGR.out (by simp; omega) (fun k e => by have := (hkr k e).1; omega)
    exact HB1.out.trans (h1.trans h2)
  have HW : Hid (∀ W, Below w5.heap.size w5 W → ∀ i (h : i < LL.length), W.cell? ⟨g, i, none⟩ = some (LL[i]).1 ∧ RowAt W (LL[i]).1 (LL[i]).2) := by
    have hall : ∀ x ∈ LL, RowB w5.heap.size w5 x.1 x.2 := by
      intro x hx
      rw [hLL, List.mem_append] at hx
      rcases hx with hx | hx
      · have hr := HINV.out.rows x hx
        refine (hr.keep (w' := w5) fun b cur fr hb hh => ?_).rowB
        have hbs := (Array.getElem?_eq_some_iff.1 hh).1
        refine (HGR.out.block b (by simp; omega) (fun e => ?_)).trans (Below.heap_alloc w2 _ b hbs)
        rcases HINV.out.own.2 with ⟨hv, _⟩ | ⟨g', cap', cur', hv, _, hgg, _⟩
        · have e' : Value.ownBlock (.slice va L.length vc) = some b := e.symm
          rw [hv] at e'; simp [Value.ownBlock] at e'
        · have e' : Value.ownBlock (.slice va L.length vc) = some b := e.symm
          rw [hv] at e'
          simp only [Value.ownBlock, Option.some.injEq] at e'
          rw [e', hh] at hgg
          simp only [Option.some.injEq, Obj.cells.injEq] at hgg
          exact absurd hgg.2.1 (by decide)
      · simp only [List.mem_cons, List.not_mem_nil, or_false] at hx
        rcases hx with rfl | rfl
        · exact ((HRA.out.b).below BW.out (Nat.le_refl _)).mono BW.out.size
        · exact ((HRB.out.b).below BW.out (Nat.le_refl _)).mono BW.out.size
    intro W hb i hi
    have hgl : g < w5.heap.size := (HOWN.out.lt g rfl).2
    refine ⟨?_, ((hall _ (List.getElem_mem hi)).below hb (Nat.le_refl _)).at hb.size⟩
    rw [hb.cell (p := ⟨g, i, none⟩) hgl, HOWN.out.cellAt i (by omega)]
    have : (L.map (·.1) ++ [.slice aa la.length ac, .slice ba lb.length bc']) = LL.map (·.1) := by rw [hLL]; simp
    rw [this]
    simp [List.getElem?_eq_getElem hi]
  have hl2 : L.length + 2 ≤ 8 := by omega
  rw [← hlen] at hl2
  rw [show (L.length : Int) + 2 = (LL.length : Int) by omega]
  rw [← hlen]
  clear HOWN HGR HINV hkr A1 A2 A3 A4 A5 HB1 HRA HRB hs1 hs2 hbc hbl hLL hlen hL6
  obtain ⟨n, hn⟩ : ∃ n, n = LL.length := ⟨_, rfl⟩
  rw [← hn] at hl2
  rw [← hn]
  have HN := Lib.hid hn
  clear hn
  go_loopg [26] n (fun g1 i wr => ∃ k : Nat, k ≤ n ∧ n - k ≤ g1 ∧ i = .int .i64 k ∧ Hid (Below w5.heap.size w5 wr))
  case atStart => exact ⟨0, by omega, by omega, rfl, Below.refl _ _⟩
  case round =>
    obtain ⟨k, hk, hgk, rfl, hbk⟩ := hrel
    by_cases hlt : k < n
    · have hkd : decide ((k : Int) < n) = true := decide_eq_true (by omega)
      have hkd' : decide (k < n) = true := decide_eq_true hlt
      have hkl : k < LL.length := by have := HN.out; omega
      have p1 := (HW.out wr hbk.out k hkl).1
      have HP := Lib.hid (fun W hb => (HW.out W hb k hkl).2)
      generalize LL[k] = p at p1 HP
      obtain ⟨pv, pl⟩ := p
      simp only at p1
      have HP' : Hid (∀ W, Below w5.heap.size w5 W → RowAt W pv pl) := HP
      obtain ⟨pa, pc, hpv⟩ : ∃ a c, pv = .slice a pl.length c := by obtain ⟨a, c, e, _⟩ := HP'.out w5 (Below.refl _ _); exact ⟨a, c, e⟩
      subst hpv
      clear HP
      go_wp2_with fail
      go_loopg [32] n (fun g1 i wr => ∃ j : Nat, j ≤ n ∧ n - j ≤ g1 ∧ i = .int .i64 j ∧ Hid (Below w5.heap.size w5 wr))
      case atStart => exact ⟨0, by omega, by omega, rfl, hbk⟩
      case round =>
        clear p1
        obtain ⟨j, hj, hgj, rfl, hbj⟩ := hrel
        by_cases hlt2 : j < n
        · have hjd : decide ((j : Int) < n) = true := decide_eq_true (by omega)
          have hjd' : decide (j < n) = true := decide_eq_true hlt2
          have hjl : j < LL.length := by have := HN.out; omega
          have q1 := (HW.out wr hbj.out j hjl).1
          have HQ := Lib.hid (fun W hb => (HW.out W hb j hjl).2)
          generalize LL[j] = q at q1 HQ
          obtain ⟨qv, ql⟩ := q
          simp only at q1
          have HQ' : Hid (∀ W, Below w5.heap.size w5 W → RowAt W qv ql) := HQ
          obtain ⟨ra, rc, hqv⟩ : ∃ a c, qv = .slice a ql.length c := by obtain ⟨a, c, e, _⟩ := HQ'.out w5 (Below.refl _ _); exact ⟨a, c, e⟩
          subst hqv
          clear HQ
          have hcases := cmpRows_range pl ql
          have hflip := cmpRows_flip pl ql
          obtain ⟨c, hc⟩ : ∃ c, cmpRows pl ql = c := ⟨_, rfl⟩
          have HT : Hid (∀ x, c ≤ 0 → cmpRows ql x ≤ 0 → cmpRows pl x ≤ 0) := fun x h1 h2 => cmpRows_trans _ _ _ (by rw [hc]; exact h1) h2
          have HPQ : Hid (∀ W, Below w5.heap.size w5 W → Calls Try.prog 25 #[.slice pa pl.length pc, .slice ra ql.length rc] W fun e w' => e = .returned (.int .i64 c) ∧ Below W.heap.size W w') := fun W hb => by
            have := vCompareRows_any _ _ _ _ W (HP'.out W hb) (HQ'.out W hb); rw [hc] at this; exact this.mono fun _ _ ⟨a, b⟩ => ⟨a, b.below⟩
          have HQP : Hid (∀ W, Below w5.heap.size w5 W → Calls Try.prog 25 #[.slice ra ql.length rc, .slice pa pl.length pc] W fun e w' => e = .returned (.int .i64 (-c)) ∧ Below W.heap.size W w') := fun W hb => by
            have := vCompareRows_any _ _ _ _ W (HQ'.out W hb) (HP'.out W hb); rw [hflip, hc] at this; exact this.mono fun _ _ ⟨a, b⟩ => ⟨a, b.below⟩
          have HRPQ : Hid (∀ W, Below w5.heap.size w5 W → Calls Try.prog 26 #[.slice pa pl.length pc, .slice ra ql.length rc] W fun e w' => e = .returned (.int .i64 c) ∧ Below W.heap.size W w') := fun W hb => by
            have := rCompareRows_any _ _ _ _ W (HP'.out W hb) (HQ'.out W hb); rw [hc] at this; exact this.mono fun _ _ ⟨a, b⟩ => ⟨a, b.below⟩
          rw [hc] at hcases
          clear hflip hc
          rcases hcases with rfl | rfl | rfl
          all_goals
            simp only [Int.neg_neg, Int.reduceNeg, Int.neg_zero, Int.reduceLE] at HPQ HQP HRPQ HT
            go_wp2_with fail
            refine (HPQ.out _ hbj.out).mono ?_
            rintro e wa ⟨rfl, hba⟩
            have HBa : Hid (Below w5.heap.size w5 wa) := hbj.out.trans (hba.mono hbj.out.size)
            clear hba q1
            go_wp2_with fail
            refine (HRPQ.out _ HBa.out).mono ?_
            rintro e wb ⟨rfl, hbb⟩
            have HBb : Hid (Below w5.heap.size w5 wb) := HBa.out.trans (hbb.mono HBa.out.size)
            clear hbb
            go_wp2_with fail
            refine (HQP.out _ HBb.out).mono ?_
            rintro e wc ⟨rfl, hbc⟩
            have HBc : Hid (Below w5.heap.size w5 wc) := HBb.out.trans (hbc.mono HBb.out.size)
            clear hbc
            go_wp2_with fail
            go_loopg [54] n (fun g1 i wr => ∃ l : Nat, l ≤ n ∧ n - l ≤ g1 ∧ i = .int .i64 l ∧ Hid (Below w5.heap.size w5 wr))
            case atStart => exact ⟨0, by omega, by omega, rfl, HBc⟩
            case round =>
              obtain ⟨l, hl, hgl, rfl, hbl⟩ := hrel
              by_cases hlt3 : l < n
              · have hll : l < LL.length := by have := HN.out; omega
                have r1 := (HW.out wr hbl.out l hll).1
                have HR := Lib.hid (fun W hb => (HW.out W hb l hll).2)
                generalize LL[l] = r at r1 HR
                obtain ⟨rv, rl⟩ := r
                simp only at r1
                have HR' : Hid (∀ W, Below w5.heap.size w5 W → RowAt W rv rl) := HR
                obtain ⟨sa, sc, hrv⟩ : ∃ a c, rv = .slice a rl.length c := by obtain ⟨a, c, e, _⟩ := HR'.out w5 (Below.refl _ _); exact ⟨a, c, e⟩
                subst hrv
                clear HR
                have hT := HT.out rl
                have hQR := fun W hb => vCompareRows_any _ _ _ _ W (HQ'.out W hb) (HR'.out W hb)
                have hPR := fun W hb => vCompareRows_any _ _ _ _ W (HP'.out W hb) (HR'.out W hb)
                generalize cmpRows ql rl = d at hQR hT
                generalize cmpRows pl rl = f at hPR hT
                have HQR : Hid (∀ W, Below w5.heap.size w5 W → Calls Try.prog 25 #[.slice ra ql.length rc, .slice sa rl.length sc] W fun e w' => e = .returned (.int .i64 d) ∧ Below W.heap.size W w') := fun W hb => (hQR W hb).mono fun _ _ ⟨a, b⟩ => ⟨a, b.below⟩
                have HPR : Hid (∀ W, Below w5.heap.size w5 W → Calls Try.prog 25 #[.slice pa pl.length pc, .slice sa rl.length sc] W fun e w' => e = .returned (.int .i64 f) ∧ Below W.heap.size W w') := fun W hb => (hPR W hb).mono fun _ _ ⟨a, b⟩ => ⟨a, b.below⟩
                have HTl := Lib.hid hT
                clear hQR hPR hT
                first
                | (by_cases hd : d ≤ 0
                   · have bd : decide (d ≤ 0) = true := decide_eq_true hd
                     have bf : decide (0 < f) = false := by have h := HTl.out; simp at h; exact decide_eq_false (by omega)
                     go_wp2_with fail
                     refine (HQR.out _ hbl.out).mono ?_
                     rintro e wd ⟨rfl, hbd⟩
                     have HBd : Hid (Below w5.heap.size w5 wd) := hbl.out.trans (hbd.mono hbl.out.size)
                     clear hbd r1
                     go_wp2_with fail
                     refine (HPR.out _ HBd.out).mono ?_
                     rintro e we ⟨rfl, hbe⟩
                     have HBe : Hid (Below w5.heap.size w5 we) := HBd.out.trans (hbe.mono HBd.out.size)
                     clear hbe
                     go_wp2_with fail
                     go_roundg (n - (l + 1))
                     case measure => omega
                     case rel => exact ⟨l + 1, by omega, Nat.le_refl _, by go_num, HBe⟩
                   · have bd : decide (d ≤ 0) = false := decide_eq_false hd
                     go_wp2_with fail
                     refine (HQR.out _ hbl.out).mono ?_
                     rintro e wd ⟨rfl, hbd⟩
                     have HBd : Hid (Below w5.heap.size w5 wd) := hbl.out.trans (hbd.mono hbl.out.size)
                     clear hbd r1
                     go_wp2_with fail
                     go_roundg (n - (l + 1))
                     case measure => omega
                     case rel => exact ⟨l + 1, by omega, Nat.le_refl _, by go_num, HBd⟩)
                | (go_wp2_with fail
                   go_roundg (n - (l + 1))
                   case measure => omega
                   case rel => exact ⟨l + 1, by omega, Nat.le_refl _, by go_num, hbl⟩)
              · have hln : l = n := by omega
                subst hln
                clear hlt3
                go_wp2_with fail
                go_roundg (l - (j + 1))
                case measure => omega
                case rel => exact ⟨j + 1, by omega, Nat.le_refl _, by go_num, hbl⟩
        · have hjn : j = n := by omega
          subst hjn
          clear hlt2
          go_wp2_with fail
          go_roundg (j - (k + 1))
          case measure => omega
          case rel => exact ⟨k + 1, by omega, Nat.le_refl _, by go_num, hbj⟩
    · have hkn : k = n := by omega
      subst hkn
      clear hlt
      go_wp2_with fail
      refine (HB.out _).mono ?_
      rintro e wf ⟨rfl, hbf⟩
      go_wp2_with fail
      go_ret
      exact ⟨rfl, BW.out.trans ((hbk.out.trans (hbf.mono hbk.out.size)).mono BW.out.size)⟩
end Go.Proofs.Ythlamhlbeabjdaa
