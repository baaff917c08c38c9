/- Walk of slices.CompactFunc over rows with value.equalRows. -/
import Derived.Test.YtkhbephcmcnfjaaEqual
import Derived.Deep.LoopGhost
import Derived.Lib.SliceRun
import Derived.Shelf.Abstract
namespace Go.Proofs.Ytkhbephcmcnfjaa
open Go.RowKit

/-- A row: its slice value and what it reads as. -/
abbrev E := Value × List V
/-- Which elements stay, of the first m: the first of each run of equal ones. -/
def compN (f : Nat → E) : Nat → List E
  | 0 => []
  | m + 1 => if m = 0 ∨ (f m).2 ≠ (f (m - 1)).2 then compN f m ++ [f m] else compN f m

/-- A slice value reads as a row, in blocks below B. -/
def RowB (B : Nat) (w : World) (rv : Value) (l : List V) : Prop :=
  ∃ (a : Option Addr) (c : Nat), rv = .slice a l.length c ∧ l.length ≤ 4398046511104 ∧
    ∀ i (h : i < l.length), ∃ b off, a = some ⟨b, off, none⟩ ∧ b < B ∧ CellsV w b (off + i * 3) l[i]

theorem CellsV.below {B : Nat} {w w' : World} (h : Below B w w') {b o : Nat} {v : V} (hb : b < B) (hc : CellsV w b o v) : CellsV w' b o v := by
  obtain ⟨h1, h2, h3⟩ := hc
  exact ⟨(h.cell (p := ⟨b, o, none⟩) hb).trans h1, (h.cell (p := ⟨b, o + 1, none⟩) hb).trans h2, (h.cell (p := ⟨b, o + 2, none⟩) hb).trans h3⟩
theorem RowB.below {B B' : Nat} {w w' : World} {rv : Value} {l : List V} (hr : RowB B w rv l) (h : Below B' w w') (hB : B ≤ B') : RowB B w' rv l := by
  obtain ⟨a, c, e, hn, hi⟩ := hr
  refine ⟨a, c, e, hn, fun i h' => ?_⟩
  obtain ⟨b, off, ea, hb, hc⟩ := hi i h'
  exact ⟨b, off, ea, hb, hc.below h (by omega)⟩
theorem RowB.mono {B B' : Nat} {w : World} {rv : Value} {l : List V} (hr : RowB B w rv l) (hB : B ≤ B') : RowB B' w rv l := by
  obtain ⟨a, c, e, hn, hi⟩ := hr
  refine ⟨a, c, e, hn, fun i h' => ?_⟩
  obtain ⟨b, off, ea, hb, hc⟩ := hi i h'
  exact ⟨b, off, ea, by omega, hc⟩
theorem RowB.at {B : Nat} {w : World} {rv : Value} {l : List V} (hr : RowB B w rv l) (hB : B ≤ w.heap.size) : RowAt w rv l := by
  obtain ⟨a, c, e, hn, hi⟩ := hr
  refine ⟨a, c, e, hn, fun i h' => ?_⟩
  obtain ⟨b, off, ea, hb, hc⟩ := hi i h'
  exact ⟨b, off, ea, by omega, hc⟩
theorem RowAt.b {w : World} {rv : Value} {l : List V} (hr : RowAt w rv l) : RowB w.heap.size w rv l := hr

theorem compN_len (f : Nat → E) : ∀ m, (compN f m).length ≤ m
  | 0 => by simp [compN]
  | m + 1 => by
    have := compN_len f m
    simp only [compN]
    split <;> simp <;> omega
theorem compN_all (f : Nat → E) : ∀ m, (∀ j, j < m → j = 0 ∨ (f j).2 ≠ (f (j - 1)).2) → (compN f m).length = m ∧ ∀ j (h : j < (compN f m).length), (compN f m)[j] = f j
  | 0, _ => by simp [compN]
  | m + 1, h => by
    have ih := compN_all f m (fun j hj => h j (by omega))
    have e : compN f (m + 1) = compN f m ++ [f m] := by
      simp only [compN]; rw [if_pos (h m (by omega))]
    rw [e]
    refine ⟨by simp [ih.1], fun j hj => ?_⟩
    rw [List.getElem_append]
    split
    · exact ih.2 j _
    · simp only [List.length_append, List.length_singleton, ih.1] at hj
      have : j = m := by omega
      subst this; simp

/-- What the second loop knows. -/
structure CInv (w : World) (blk off n : Nat) (f : Nat → E) (m kk : Nat) (wr : World) : Prop where
  below : Below blk w wr
  hb : blk < wr.heap.size
  len : (compN f m).length = kk
  lt : kk < m
  low : ∀ j (h : j < (compN f m).length), wr.cell? ⟨blk, off + j, none⟩ = some (compN f m)[j].1
  high : ∀ j, m ≤ j + 1 → j < n → wr.cell? ⟨blk, off + j, none⟩ = some (f j).1
  any : ∀ j, j < n → ∃ v, wr.cell? ⟨blk, off + j, none⟩ = some v
  fz : ∀ j, j < n → wr.frozen? ⟨blk, off + j, none⟩ = false

theorem CInv.gr {w : World} {blk off n : Nat} {f : Nat → E} {m kk : Nat} {wr w' : World} (h : CInv w blk off n f m kk wr) (g : Below wr.heap.size wr w') : CInv w blk off n f m kk w' := by
  have hb := h.hb
  have hc : ∀ o, w'.cell? ⟨blk, o, none⟩ = wr.cell? ⟨blk, o, none⟩ := fun o => g.cell (p := ⟨blk, o, none⟩) hb
  have hf : ∀ o, w'.frozen? ⟨blk, o, none⟩ = wr.frozen? ⟨blk, o, none⟩ := fun o => g.frozen (p := ⟨blk, o, none⟩) hb
  exact ⟨h.below.trans (g.mono (by omega)), Nat.lt_of_lt_of_le hb g.size, h.len, h.lt, fun j hj => (hc _).trans (h.low j hj), fun j h1 h2 => (hc _).trans (h.high j h1 h2), fun j hj => by rw [hc]; exact h.any j hj, fun j hj => (hf _).trans (h.fz j hj)⟩
theorem CInv.skip {w : World} {blk off n : Nat} {f : Nat → E} {m kk : Nat} {wr : World} (h : CInv w blk off n f m kk wr) (hm : 0 < m) (he : (f m).2 = (f (m - 1)).2) : CInv w blk off n f (m + 1) kk wr := by
  have e : compN f (m + 1) = compN f m := by
    simp only [compN]; rw [if_neg]; intro h; rcases h with h | h
    · omega
    · exact h he
  have lt := h.lt
  exact ⟨h.below, h.hb, by rw [e]; exact h.len, by omega, by rw [e]; exact h.low, fun j h1 h2 => h.high j (by omega) h2, h.any, h.fz⟩
theorem CInv.keep {w : World} {blk off n : Nat} {f : Nat → E} {m kk : Nat} {wr : World} (h : CInv w blk off n f m kk wr) (hm : m < n) (he : (f m).2 ≠ (f (m - 1)).2) : CInv w blk off n f (m + 1) (kk + 1) (wr.setCell ⟨blk, off + kk, none⟩ (f m).1) := by
  have e : compN f (m + 1) = compN f m ++ [f m] := by
    simp only [compN]; rw [if_pos (.inr he)]
  have lt := h.lt
  have hother : ∀ j, j ≠ kk → (wr.setCell ⟨blk, off + kk, none⟩ (f m).1).cell? ⟨blk, off + j, none⟩ = wr.cell? ⟨blk, off + j, none⟩ := fun j hj => World.cell?_setCell_other _ _ _ _ (by simp <;> omega)
  obtain ⟨old, ho⟩ := h.any kk (by omega)
  have hsame := World.cell?_setCell_same (v := (f m).1) (h := ho)
  refine ⟨h.below.setCell (by simp) _, by simp; exact h.hb, by rw [e]; simp [h.len], by omega, ?_, fun j h1 h2 => ?_, fun j hj => ?_, fun j hj => by rw [World.frozen?_setCell]; exact h.fz j hj⟩
  · rw [e]
    intro j hj
    rw [List.getElem_append]
    split
    · rename_i hlt
      rw [hother j (by have := h.len; omega)]; exact h.low j hlt
    · rename_i hlt
      have hl := h.len
      simp only [List.length_append, List.length_singleton] at hj
      have : j = kk := by omega
      subst this
      rw [hsame]
      simp [hl]
  · rw [hother j (by omega)]; exact h.high j (by omega) h2
  · by_cases ej : j = kk
    · subst ej; exact ⟨_, hsame⟩
    · rw [hother j ej]; exact h.any j hj

theorem size_setCells (b : Nat) : ∀ (vs : List Value) (o : Nat) (w : World), (w.setCells b o vs).heap.size = w.heap.size
  | [], _, _ => rfl
  | v :: r, o, w => by rw [World.setCells, size_setCells b r]; simp
theorem below_setCells {B : Nat} {a : World} {b : Nat} (hB : B ≤ b) : ∀ (vs : List Value) (o : Nat) {w : World}, Below B a w → Below B a (w.setCells b o vs)
  | [], _, _, h => h
  | v :: r, o, _, h => below_setCells hB r (o + 1) (h.setCell hB v)

def CompactPost (w : World) (blk off cap n : Nat) (f : Nat → E) (e : Ending) (w' : World) : Prop :=
  e = .returned (.slice (some ⟨blk, off, none⟩) (compN f n).length cap) ∧ Below blk w w' ∧ blk < w'.heap.size ∧
    (∀ j (h : j < (compN f n).length), w'.cell? ⟨blk, off + j, none⟩ = some (compN f n)[j].1) ∧ ∀ j, j < n → w'.frozen? ⟨blk, off + j, none⟩ = false

set_option maxHeartbeats 1000000 in
theorem compact_any (blk off cap n : Nat) (f : Nat → E) (w : World) (hblk : blk < w.heap.size) (hn : n ≤ 4398046511104) (hcap : n ≤ cap) (hcap2 : cap ≤ 140737488351232)
    (hf : ∀ j, j < n → RowB blk w (f j).1 (f j).2) (hc : ∀ j, j < n → w.cell? ⟨blk, off + j, none⟩ = some (f j).1 ∧ w.frozen? ⟨blk, off + j, none⟩ = false) :
    Calls Try.prog 55 #[.slice (some ⟨blk, off, none⟩) n cap, .func (.func 56) #[] #[]] w (CompactPost w blk off cap n f) := by
  have HF := Lib.hid hf
  have HC := Lib.hid hc
  clear hf hc
  by_cases h2 : n < 2
  · have hx : Hid ((compN f n).length = n ∧ ∀ j (h : j < (compN f n).length), (compN f n)[j] = f j) := compN_all f n (fun j hj => by left; omega)
    go_enter Try.func55, Try.ntmps55
    go_wp2_with fail
    go_ret
    refine ⟨by rw [hx.out.1]; try rfl, Below.refl _ _, hblk, fun j hj => ?_, fun j hj => (HC.out j hj).2⟩
    rw [hx.out.2 j hj]
    exact (HC.out j (by have := hx.out.1; omega)).1
  · have eg : ∀ args w, (callFunc 56 args).run Try.prog w = .ok (.enter 56 args) w := enters_of Try.func56 (by kernel_rfl) rfl
    go_enter Try.func55, Try.ntmps55
    go_wp2_with fail
    go_loopg [5] n (fun g s5 wr => ∃ k : Nat, 1 ≤ k ∧ k ≤ n ∧ n - k ≤ g ∧ s5 = .int .i64 k ∧ Gr w wr ∧ Hid (∀ j, j < k → j = 0 ∨ (f j).2 ≠ (f (j - 1)).2))
    case atStart => exact ⟨1, Nat.le_refl _, by omega, by omega, rfl, Gr.refl _, fun j hj => by left; omega⟩
    case round =>
      obtain ⟨k, hk1, hk, hg, rfl, hgr, hall⟩ := hrel
      obtain ⟨hcl, hfz⟩ := bcell hgr.below
      have hwz : w.heap.size ≤ wr.heap.size := hgr.below.size
      by_cases hlt : k < n
      · have c1 := (HC.out k hlt).1
        have c0 := (HC.out (k - 1) (by omega)).1
        rw [← hcl _ _ hblk] at c1 c0
        have r1 := ((HF.out k hlt).below hgr.below (by omega)).at (w := wr) (by omega)
        have r0 := ((HF.out (k - 1) (by omega)).below hgr.below (by omega)).at (w := wr) (by omega)
        have hcall := fun W (g : Gr wr W) => vEqualRows_any _ _ _ _ W (((r1.b).below g.below (Nat.le_refl _)).at g.below.size) (((r0.b).below g.below (Nat.le_refl _)).at g.below.size)
        generalize hu : f k = u at c1 r1 hcall
        generalize hv : f (k - 1) = v at c0 r0 hcall
        have U : Hid (f k = u ∧ f (k - 1) = v) := ⟨hu, hv⟩
        clear hu hv hcl hfz r1 r0
        obtain ⟨u1, u2⟩ := u
        obtain ⟨v1, v2⟩ := v
        simp only at c1 c0 hcall
        by_cases hdup : u2 = v2
        · simp only [hdup, decide_true] at hcall
          have HCALL := Lib.hid hcall
          clear hcall
          have hpos : 0 < k := by omega
          go_wp2_with fail
          go_quiet ((go_at_call 56; exact Calls.quiet_of (HCALL.out _ (Gr.drewN (Gr.refl _) _))))
          rename_i nq
          have hg2 : Gr w (wr.drewN nq) := hgr.drewN nq
          have HI : Hid (CInv w blk off n f (k + 1) k (wr.drewN nq)) := by
            have ha := compN_all f k hall.out
            have e : compN f (k + 1) = compN f k := by
              simp only [compN]; rw [if_neg]; intro h
              rcases h with h | h
              · omega
              · rw [U.out.1, U.out.2] at h; exact h hdup
            obtain ⟨hcl, hfz⟩ := bcell hg2.below
            refine ⟨hg2.below.mono (by omega), by simp; omega, by rw [e]; exact ha.1, by omega, ?_, fun j h1 h2 => by rw [hcl _ _ hblk]; exact (HC.out j h2).1, fun j hj => ⟨_, by rw [hcl _ _ hblk]; exact (HC.out j hj).1⟩, fun j hj => by rw [hfz _ _ hblk]; exact (HC.out j hj).2⟩
            rw [e]
            intro j hj
            rw [hcl _ _ hblk, ha.2 j hj]
            exact (HC.out j (by have := ha.1; omega)).1
          have HBW : Hid (Gr w (wr.drewN nq)) := hg2
          clear hg2 c1 c0 hgr HCALL U hdup
          generalize wr.drewN nq = wq at HI HBW ⊢
          go_wp2_with fail
          go_loopg [5, 7] n (fun g s5 s7 wi => ∃ kk k2 : Nat, s5 = .int .i64 kk ∧ s7 = .int .i64 k2 ∧ 1 ≤ k2 ∧ k + k2 ≤ n ∧ n - (k + k2) ≤ g ∧ kk < k + k2 ∧ Hid (CInv w blk off n f (k + k2) kk wi))
          case atStart => exact ⟨k, 1, rfl, rfl, Nat.le_refl _, by omega, by omega, by omega, HI⟩
          case round =>
            clear HI HBW
            obtain ⟨kk, k2, rfl, rfl, hk2, hkn, hgi, hkk, HI⟩ := hrel
            have hbi := HI.out.hb
            have hwi : w.heap.size ≤ wr.heap.size := HI.out.below.size
            by_cases hlt2 : k + k2 < n
            · have d1 := HI.out.high (k + k2) (by omega) hlt2
              have d0 := HI.out.high (k + k2 - 1) (by omega) (by omega)
              obtain ⟨old, dk⟩ := HI.out.any kk (by omega)
              have fk := HI.out.fz kk (by omega)
              have r1 := ((HF.out (k + k2) hlt2).below HI.out.below (Nat.le_refl _)).at (w := wr) (by omega)
              have r0 := ((HF.out (k + k2 - 1) (by omega)).below HI.out.below (Nat.le_refl _)).at (w := wr) (by omega)
              have hcall := fun W (g : Gr wr W) => vEqualRows_any _ _ _ _ W (((r1.b).below g.below (Nat.le_refl _)).at g.below.size) (((r0.b).below g.below (Nat.le_refl _)).at g.below.size)
              rw [show off + (k + k2) = off + k + k2 by omega] at d1
              rw [show off + (k + k2 - 1) = off + k + (k2 - 1) by omega] at d0
              have hsl : ∃ a l c, (f (k + k2)).1 = .slice a l c := by obtain ⟨a, c, e, _⟩ := r1; exact ⟨a, _, c, e⟩
              generalize hu : f (k + k2) = u at d1 r1 hcall hsl
              generalize hv : f (k + k2 - 1) = v at d0 r0 hcall
              have U : Hid (f (k + k2) = u ∧ f (k + k2 - 1) = v) := ⟨hu, hv⟩
              clear hu hv r1 r0
              obtain ⟨u1, u2⟩ := u
              obtain ⟨v1, v2⟩ := v
              simp only at d1 d0 hcall hsl
              obtain ⟨ua, ul, uc, rfl⟩ := hsl
              have h2pos : 0 < k2 := by omega
              by_cases hdup : u2 = v2
              · simp only [hdup, decide_true] at hcall
                have HCALL := Lib.hid hcall
                clear hcall
                have hs : Hid ((f (k + k2)).2 = (f (k + k2 - 1)).2) := by show _ = _; rw [U.out.1, U.out.2]; exact hdup
                clear hdup
                go_wp2_with fail
                go_quiet ((go_at_call 56; exact Calls.quiet_of (HCALL.out _ (Gr.drewN (Gr.refl _) _))))
                rename_i nq
                go_wp2_with fail
                go_roundg (n - (k + (k2 + 1)))
                case measure => omega
                case rel => exact ⟨kk, k2 + 1, rfl, by go_num, by omega, by omega, Nat.le_refl _, by omega, (HI.out.gr (Gr.drewN (Gr.refl _) nq).below).skip (by omega) hs.out⟩
              · simp only [hdup, decide_false] at hcall
                have HCALL := Lib.hid hcall
                clear hcall
                have hs : Hid ((f (k + k2)).2 ≠ (f (k + k2 - 1)).2) := by show _ ≠ _; rw [U.out.1, U.out.2]; exact hdup
                clear hdup
                go_wp2_with fail
                go_quiet ((go_at_call 56; exact Calls.quiet_of (HCALL.out _ (Gr.drewN (Gr.refl _) _))))
                rename_i nq
                go_wp2_with fail
                go_roundg (n - (k + (k2 + 1)))
                case measure => omega
                case rel =>
                  refine ⟨kk + 1, k2 + 1, by go_num, by go_num, by omega, by omega, Nat.le_refl _, by omega, ?_⟩
                  have h := (HI.out.gr (Gr.drewN (Gr.refl _) nq).below).keep hlt2 hs.out
                  rw [U.out.1] at h
                  exact h
            · have hend : k + k2 = n := by omega
              have HJ : Hid (CInv w blk off n f n kk wr) := by have h := HI.out; rw [hend] at h; exact h
              have hlt3 : kk < n := by omega
              have hclr : ∀ ty, (Builtin.clear_ #[23] ty #[.slice (some ⟨blk, off + kk, none⟩) (n - kk) (cap - kk)]).run Try.prog wr = .ok (.tuple #[]) (wr.setCells blk (off + kk) (List.replicate (n - kk) (.slice none 0 0))) :=
                fun ty => Lib.run_clear_slice wr _ _ ty (.slice none 0 0) Try.underlying23 (fun w => by kernel_rfl) rfl rfl blk (off + kk) _ _ (by omega)
                  (fun j hj => by obtain ⟨v, hv⟩ := HJ.out.any (kk + j) (by omega); rw [show off + kk + j = off + (kk + j) by omega, hv]; rfl)
                  (fun j hj => by rw [show off + kk + j = off + (kk + j) by omega]; exact HJ.out.fz (kk + j) (by omega))
              clear HI
              go_wp2_with fail
              go_ret
              have hJ := HJ.out
              have hl := hJ.len
              refine ⟨by rw [hl]; try rfl, below_setCells (Nat.le_refl _) _ _ hJ.below, by rw [size_setCells]; exact hJ.hb, fun j hj => ?_, fun j hj => by rw [World.frozen?_setCells]; exact hJ.fz j hj⟩
              rw [World.cell?_setCells_out _ _ _ _ _ (fun _ _ => by left; show off + j < off + kk; omega)]
              exact hJ.low j hj
        · simp only [hdup, decide_false] at hcall
          have HCALL := Lib.hid hcall
          clear hcall
          have hs : Hid (∀ j, j < k + 1 → j = 0 ∨ (f j).2 ≠ (f (j - 1)).2) := by
            intro j hj
            by_cases e : j = k
            · right; rw [e, U.out.1, U.out.2]; exact hdup
            · exact hall.out j (by omega)
          clear hdup
          have hpos : 0 < k := by omega
          go_wp2_with fail
          go_quiet ((go_at_call 56; exact Calls.quiet_of (HCALL.out _ (Gr.drewN (Gr.refl _) _))))
          rename_i nq
          go_wp2_with fail
          go_roundg (n - (k + 1))
          case measure => omega
          case rel => exact ⟨k + 1, by omega, by omega, Nat.le_refl _, by go_num, hgr.drewN nq, hs.out⟩
      · have hkn : k = n := by omega
        subst hkn
        have ha := compN_all f k hall.out
        clear hcl hfz
        have HA := Lib.hid ha
        clear ha
        go_wp2_with fail
        go_ret
        obtain ⟨hcl, hfz⟩ := bcell hgr.below
        refine ⟨by rw [HA.out.1]; try rfl, hgr.below.mono (by omega), by omega, fun j hj => ?_, fun j hj => by rw [hfz _ _ hblk]; exact (HC.out j hj).2⟩
        rw [HA.out.2 j hj, hcl _ _ hblk]
        exact (HC.out j (by have := HA.out.1; omega)).1
end Go.Proofs.Ytkhbephcmcnfjaa
