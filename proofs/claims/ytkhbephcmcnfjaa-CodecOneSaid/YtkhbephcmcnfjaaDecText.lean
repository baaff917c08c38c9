/- The decoder's texts. -/
import Derived.Test.YtkhbephcmcnfjaaDecInt
import Derived.Test.YtkhbephcmcnfjaaSame
namespace Go.Proofs.Ytkhbephcmcnfjaa
open Go.RowKit Go.Deep

def rdText (L : List UInt8) (p most : Nat) : Except Int (List UInt8 × Nat) := match rdUint L p with
  | .error e => .error e
  | .ok (n, q) => if most < n then .error 2 else if L.length - q < n then .error 20 else .ok ((L.drop q).take n, q + n)
def retT : Except Int (List UInt8 × Nat) → Except Int (Value × Nat)
  | .error e => .error e
  | .ok (s, j) => .ok (.string ⟨s.toArray⟩, j)

set_option maxRecDepth 100000 in
theorem cut_bytes (a : Option Addr) (c : Nat) (L : List UInt8) (q n : Nat) (h : q + n ≤ L.length) (h1 : L.length ≤ c) : ∃ sl, (∀ W, (Instr.slice 22 (.slice a L.length c) (some (.int .i64 (q : Int))) (some (.int .i64 ((q : Int) + n))) none).run Try.prog W = .ok sl W) ∧
    ∀ W, (∀ j (h : j < L.length), ∃ b off, a = some ⟨b, off, none⟩ ∧ W.cell? ⟨b, off + j, none⟩ = some (.int .u8 (L[j].toNat : Int))) → (convert 22 9 sl).run Try.prog W = .ok (.string ⟨((L.drop q).take n).toArray⟩) W := by
  have hs : ∀ W, (sizeOf (Try.prog.elem 22)).run Try.prog W = .ok 1 W := fun W => by rfl
  refine ⟨sliced a q (q + n) c 1, fun W => ?_, fun W hc => ?_⟩
  · rw [run_slice_lh W 22 a L.length c (by kernel_rfl) .i64 .i64 q ((q : Int) + n) (by omega) (by omega) (by omega), hs]
    simp only [Result.andThen]
    congr 2
  · unfold sliced
    cases a with
    | none =>
      have hl : L = [] := by
        cases L with
        | nil => rfl
        | cons x l => obtain ⟨b, off, e, _⟩ := hc 0 (by simp); simp at e
      subst hl
      simp only [Option.map_none, ite_self, List.drop_nil, List.take_nil]
      exact run_convert_bytes_nil W 22 5 Try.underlying22 Try.underlying5 _ _ _ Try.underlying9
    | some p =>
      obtain ⟨r, hr⟩ : ∃ r, (if c = q then some p else Option.map (fun x => x.add (q * 1)) (some p)) = some r ∧ (c ≠ q → r = p.add q) := by
        by_cases e : c = q
        · exact ⟨p, by rw [if_pos e], fun h => absurd e h⟩
        · exact ⟨p.add q, by rw [if_neg e, Nat.mul_one]; rfl, fun _ => rfl⟩
      rw [hr.1, show q + n - q = ((L.drop q).take n).length by rw [List.length_take, List.length_drop]; omega]
      refine run_convert_bytes_back W 22 9 5 r (c - q) _ Try.underlying22 Try.underlying5 Try.underlying9 (fun j hj => ?_)
      rw [List.length_take, List.length_drop] at hj
      obtain ⟨b, off, e, hcell⟩ := hc (q + j) (by omega)
      simp only [Option.some.injEq] at e
      subst e
      have e1 : (⟨b, off, none⟩ : Addr).add q = ⟨b, off + q, none⟩ := add_at _ rfl q
      have e2 : (⟨b, off + q, none⟩ : Addr).add j = ⟨b, off + q + j, none⟩ := add_at _ rfl j
      rw [hr.2 (by omega), e1, e2]
      simp only [List.getElem_take, List.getElem_drop]
      rw [Nat.add_assoc]
      exact hcell

set_option maxRecDepth 100000 in
set_option maxHeartbeats 1000000 in
theorem dText_any (bd B : Nat) (L : List UInt8) (p most : Nat) (w : World) (h : DecOk bd B L p w) (hm : most ≤ 9223372036854775807) (hL : L.length ≤ 4398046511104) :
    Calls Try.prog 81 #[.pointer (some ⟨bd, 0, none⟩), .int .i64 most] w (DecPost bd B L (retT (rdText L p most)) w) := by
  unfold rdText
  obtain ⟨r, hr⟩ : ∃ r, rdUint L p = r := ⟨_, rfl⟩
  have HU := Lib.hid (dUint_any bd B L p w h)
  rw [hr] at HU ⊢
  cases r with
  | error e =>
    clear h hr
    go_enter Try.func81, Try.ntmps81
    go_wp2_with fail
    refine HU.out.mono ?_
    rintro en w1 ⟨hm, rfl⟩
    exact ⟨rfl, hm, rfl⟩
  | ok x =>
    obtain ⟨n, q⟩ := x
    have hn := rdUint_lt hr
    clear h hr
    by_cases h1 : most < n
    · have d1 : decide ((n : Int) ≤ most) = false := decide_eq_false (by omega)
      have d1' : decide (n ≤ most) = false := decide_eq_false (by omega)
      have HQ := Lib.hid (req_no 2)
      simp only [if_pos h1]
      go_enter Try.func81, Try.ntmps81
      go_wp2_with fail
      refine HU.out.mono ?_
      rintro en w1 ⟨hm, rfl, hok⟩
      have HM := Lib.hid hm
      clear hm hok HU
      go_wp2_with fail
      refine (HQ.out _).mono ?_
      rintro en w2 ⟨rfl, rfl⟩
      exact ⟨rfl, HM.out, rfl⟩
    · have d1 : decide ((n : Int) ≤ most) = true := decide_eq_true (by omega)
      have d1' : decide (n ≤ most) = true := decide_eq_true (by omega)
      have HQ := Lib.hid (req_yes 2)
      simp only [if_neg h1]
      by_cases h2 : L.length - q < n
      · simp only [if_pos h2]
        have HQ2 := Lib.hid (req_no 20)
        go_enter Try.func81, Try.ntmps81
        go_wp2_with fail
        refine HU.out.mono ?_
        rintro en w1 ⟨hm, rfl, hok⟩
        have HM := Lib.hid hm
        obtain ⟨a, c, _, hq, _, _, c0, c1, f1, _⟩ := hok
        have e1 : (0 : Int) ≤ L.length - q := by omega
        have e2 : IntKind.i64.wrap ((L.length : Int) - q) = (L.length : Int) - q := by rw [IntKind.wrap_i64]; omega
        have e3 : IntKind.u64.wrap ((L.length : Int) - q) = (L.length : Int) - q := by rw [IntKind.wrap_u64]; omega
        have d2 : decide ((n : Int) ≤ L.length - q) = false := decide_eq_false (by omega)
        clear hm HU
        go_wp2_with fail
        refine (HQ.out _).mono ?_
        rintro en w2 ⟨rfl, rfl⟩
        go_wp2_with fail
        go_still_tail 13, (by kernel_rfl)
        change wpList _ _ _ _ _ w2.drew
        go_wp2_with fail
        refine (HQ2.out _).mono ?_
        rintro en w3 ⟨rfl, rfl⟩
        exact ⟨rfl, HM.out.drewN 1, rfl⟩
      · simp only [if_neg h2]
        have HQ2 := Lib.hid (req_yes 20)
        go_enter Try.func81, Try.ntmps81
        go_wp2_with fail
        refine HU.out.mono ?_
        rintro en w1 ⟨hm, rfl, hok⟩
        have HM := Lib.hid hm
        have HOK := Lib.hid hok
        obtain ⟨a, c, _, hq, _, _, c0, c1, f1, _⟩ := hok
        have e1 : (0 : Int) ≤ L.length - q := by omega
        have e2 : IntKind.i64.wrap ((L.length : Int) - q) = (L.length : Int) - q := by rw [IntKind.wrap_i64]; omega
        have e3 : IntKind.u64.wrap ((L.length : Int) - q) = (L.length : Int) - q := by rw [IntKind.wrap_u64]; omega
        have d2 : decide ((n : Int) ≤ L.length - q) = true := decide_eq_true (by omega)
        clear hm HU
        go_wp2_with fail
        refine (HQ.out _).mono ?_
        rintro en w2 ⟨rfl, rfl⟩
        go_wp2_with fail
        go_still_tail 13, (by kernel_rfl)
        change wpList _ _ _ _ _ w2.drew
        go_wp2_with fail
        refine (HQ2.out _).mono ?_
        rintro en w3 ⟨rfl, rfl⟩
        go_wp2_with fail
        obtain ⟨sl, hsl, hrd⟩ := cut_bytes a c L q n (by omega) (by assumption)
        have hsl2 : ∀ W, (Instr.sliceAt 22 (.slice a L.length c) (some (.int .i64 (q : Int))) (some (.int .i64 ((q : Int) + n))) none).run Try.prog W = .ok sl W := fun W => (run_sliceAt_slice W _ _ _ _ _ (by kernel_rfl)).trans (hsl W)
        have hmv : Mv bd w2 ((w2.setCell ⟨bd, 1, none⟩ (.int .i64 ((q : Int) + n))).drew) := ((Mv.refl _ _).setCell _ _).drewN 1
        have hok2 : DecOk bd B L (q + n) ((w2.setCell ⟨bd, 1, none⟩ (.int .i64 ((q : Int) + n))).drew) := by
          have := HOK.out.move (q := q + n) 1 (by omega)
          rwa [show ((q + n : Nat) : Int) = (q : Int) + n by omega] at this
        have hce : ((w2.setCell ⟨bd, 1, none⟩ (.int .i64 ((q : Int) + n))).drew).cell? ⟨bd, 0, none⟩ = some (.slice a L.length c) := by
          show (w2.setCell ⟨bd, 1, none⟩ (.int .i64 ((q : Int) + n))).cell? ⟨bd, 0, none⟩ = _
          rw [World.cell?_setCell_other _ _ _ _ (by simp)]; exact c0
        generalize (w2.setCell ⟨bd, 1, none⟩ (.int .i64 ((q : Int) + n))).drew = w4 at hmv hok2 hce ⊢
        have HM2 : Hid (Mv bd w w4) := HM.out.trans hmv
        have HOK2 := Lib.hid hok2
        obtain ⟨a', c', _, _, _, _, x0, x1, f2, hcl⟩ := hok2
        have x0' : w4.cell? ⟨bd, 0, none⟩ = some (.slice a L.length c) := hce
        obtain ⟨rfl, rfl⟩ : a' = a ∧ c' = c := by rw [x0'] at x0; simp at x0; exact ⟨x0.1.symm, x0.2.symm⟩
        have hcv : ∀ k, (convert 22 9 sl).run Try.prog (w4.drewN k) = .ok (.string ⟨((L.drop q).take n).toArray⟩) (w4.drewN k) := fun k => hrd _ (fun j hj => by
          obtain ⟨b, off, e, _, _, hc⟩ := hcl j hj
          exact ⟨b, off, e, hc⟩)
        have x1' : w4.cell? ⟨bd, 1, none⟩ = some (.int .i64 ((q : Int) + n)) := by rw [x1]; congr 2
        clear hsl hrd hcl x1
        go_quiet (fail)
        rename_i nq
        have hlt := HOK2.out.lt
        go_wp2_with fail
        go_ret
        exact ⟨HM2.out.drewN _, rfl, HOK2.out.below ((Gr.refl _).drewN _).below hlt.2⟩
end Go.Proofs.Ytkhbephcmcnfjaa
