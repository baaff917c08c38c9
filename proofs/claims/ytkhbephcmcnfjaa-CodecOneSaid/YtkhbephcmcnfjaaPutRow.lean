/- Walks of AppendValue, AppendRow. -/
import Derived.Test.YtkhbephcmcnfjaaPutVal
import Derived.Test.YtkhbephcmcnfjaaCompact
namespace Go.Proofs.Ytkhbephcmcnfjaa
open Go.RowKit Go.Deep

def vldL (l : List V) : Bool := l.all fun v => vldB v.k v.n v.s
theorem vldL_bad (l : List V) (k : Nat) (h : k < l.length) (hb : vldB l[k].k l[k].n l[k].s = false) : ¬ vldL l = true := fun e => by
  have := List.all_eq_true.1 e _ (List.getElem_mem h)
  simp [hb] at this
theorem vldL_take (l : List V) (k : Nat) (h : k < l.length) : vldL (l.take (k + 1)) = (vldL (l.take k) && vldB l[k].k l[k].n l[k].s) := by
  unfold vldL
  rw [List.take_succ_eq_append_getElem h, List.all_append]
  simp
def encL : List V → List UInt8
  | [] => []
  | v :: l => encV v ++ encL l
theorem encL_app (l m : List V) : encL (l ++ m) = encL l ++ encL m := by
  induction l with
  | nil => rfl
  | cons v l ih => simp [encL, ih]
def rowErr (l : List V) : Int := if 12 < l.length then 2 else if vldL l then 0 else 10
def rowOut (L : List UInt8) (l : List V) : List UInt8 := if 12 < l.length then [] else if vldL l then L ++ (leb l.length ++ encL l) else []
def OutPost2 (B : Nat) (w : World) (L : List UInt8) (n : Int) (e : Ending) (w' : World) : Prop := ∃ v, e = .returned (.tuple #[v, .int .i64 n]) ∧ Own B w' v L ∧ Below B w w' ∧ Keeps w w'
def InR (v : V) : Prop := -9223372036854775808 ≤ v.n ∧ v.n ≤ 9223372036854775807

theorem encV_len (v : V) (hv : vldB v.k v.n v.s = true) (hr : InR v) : (encV v).length ≤ 75 := by
  obtain ⟨k, n, s⟩ := v
  have hz := leb_len10 (zz n) (zz_le n hr.1 hr.2)
  rcases (vld_cases k n s).1 hv with ⟨hk, rfl, rfl⟩ | ⟨rfl, hn01, rfl⟩ | ⟨rfl, rfl⟩ | ⟨rfl, rfl, hs⟩
  · rcases hk with rfl | rfl <;> simp [encV]
  · simp [encV]
  · simp [encV]; omega
  · have := leb_len10 s.size (by omega)
    simp [encV, txt_len]; omega
theorem encL_len : ∀ (l : List V), vldL l = true → (∀ v ∈ l, InR v) → (encL l).length ≤ 75 * l.length
  | [], _, _ => by simp [encL]
  | v :: l, h, hr => by
    unfold vldL at h
    rw [List.all_cons, Bool.and_eq_true] at h
    have h1 := encV_len v h.1 (hr v (by simp))
    have h2 := encL_len l h.2 (fun x hx => hr x (by simp [hx]))
    simp only [encL, List.length_append, List.length_cons]
    omega

theorem Own.nil (B : Nat) (w : World) : Own B w (.slice none 0 0) [] := World.ownsRow_nil w B 5 1

set_option maxRecDepth 100000 in
set_option maxHeartbeats 1000000 in
theorem aValue_any (b : Value) (L : List UInt8) (k n : Int) (s : ByteArray) (w : World) (h : Reads w b L) (hl : L.length ≤ 4398046511103) (hn : -9223372036854775808 ≤ n) (hn' : n ≤ 9223372036854775807) :
    Calls Try.prog 30 #[b, .agg #[.int .i64 k, .int .i64 n, .string s]] w (OutPost2 w.heap.size w (if vldB k n s then L ++ encV ⟨k, n, s⟩ else []) (if vldB k n s then 0 else 10)) := by
  obtain ⟨a, ln, c, rfl⟩ := h.form
  obtain ⟨rfl, hlc, hfull⟩ := h.full
  obtain ⟨x, hx⟩ : ∃ x, vldB k n s = x := ⟨_, rfl⟩
  have HV := Lib.hid (fun W => vValid_any k n s W)
  have HP : Hid (x = true → ∀ W, Below w.heap.size w W → Calls Try.prog 70 #[.slice a L.length L.length, .agg #[.int .i64 k, .int .i64 n, .string s]] W (OutPost w.heap.size W (L ++ encV ⟨k, n, s⟩))) := fun hx2 W hb =>
    kValue_any w.heap.size _ L k n s W (by rw [hx, hx2]) hn hn' (.inr (hfull W hb)) hl hb.size
  have HF : Hid (∀ W, Calls Try.prog 64 #[.slice a L.length c] W fun e w' => e = .returned (.slice a L.length L.length) ∧ w' = W) := fun W => fresh_eq a _ _ W hlc
  have HB0 : Hid (Below w.heap.size w (w.alloc (.cells #[.int .i64 k, .int .i64 n, .string s] 42))) := (Below.refl _ _).alloc (Nat.le_refl _) _
  have HK0 := Lib.hid (Keeps.alloc w (.cells #[.int .i64 k, .int .i64 n, .string s] 42))
  rw [hx] at HV
  rw [hx]
  clear hx h hfull hn hn'
  cases x with
  | false =>
    clear HP
    go_enter Try.func30, Try.ntmps30
    go_wp2_with fail
    refine (HV.out _).mono ?_
    rintro e w1 ⟨rfl, hg⟩
    have HG := Lib.hid hg.below
    clear hg
    go_wp2_with fail
    refine bodyPost_ret (v := .tuple #[.slice none 0 0, .int .i64 10]) (by simp [results, Try.results30, go_sem]) rfl ?_
    exact ⟨_, rfl, Own.nil _ _, HB0.out.trans (HG.out.mono HB0.out.size), HK0.out.trans (Keeps.below HG.out)⟩
  | true =>
    have HPT := Lib.hid (HP.out rfl)
    clear HP
    go_enter Try.func30, Try.ntmps30
    go_wp2_with fail
    refine (HV.out _).mono ?_
    rintro e w1 ⟨rfl, hg⟩
    obtain ⟨p0, p1, p2⟩ := struct_kept (Keeps.below hg.below)
    have hbw : Below w.heap.size w w1 := HB0.out.trans (hg.below.mono HB0.out.size)
    have HK1 : Hid (Keeps w w1) := HK0.out.trans (Keeps.below hg.below)
    have HS : Hid (∀ W, Keeps w1 W → W.cell? ⟨w.heap.size, 0, none⟩ = some (.int .i64 k) ∧ W.cell? ⟨w.heap.size, 1, none⟩ = some (.int .i64 n) ∧ W.cell? ⟨w.heap.size, 2, none⟩ = some (.string s)) := fun W hk => struct_kept ((Keeps.below hg.below).trans hk)
    clear hg
    go_wp2_with fail
    go_region_held3 (fun W => W.cell? ⟨w.heap.size, 0, none⟩ = some (.int .i64 k) ∧ W.cell? ⟨w.heap.size, 1, none⟩ = some (.int .i64 n) ∧ W.cell? ⟨w.heap.size, 2, none⟩ = some (.string s))
      (first | exact ⟨r0, r1, r2⟩ | exact ⟨p0, p1, p2⟩)
      (first | (go_at_call 64; (with_reducible refine (HF.out _).mono ?_); rintro e w2 ⟨rfl, rfl⟩) | (go_at_call 70; (with_reducible refine (HPT.out _ (by (repeat (first | exact Below.refl _ _ | assumption | refine Below.drew ?_ | refine Below.setCell ?_ (by simp; try omega) _ | refine Below.alloc ?_ (by simp; try omega) _)))).mono ?_); rintro e w2 ⟨v2, rfl, ho, hb, hk⟩; have HO2 := Lib.hid ho; have HB2 : Hid (Below w.heap.size w w2) := Below.trans (by (repeat (first | exact Below.refl _ _ | assumption | refine Below.drew ?_ | refine Below.setCell ?_ (by simp; try omega) _ | refine Below.alloc ?_ (by simp; try omega) _))) hb; have HK2 : Hid (Keeps w1 w2) := hk; obtain ⟨r0, r1, r2⟩ := HS.out w2 HK2.out; clear ho hb hk))
    go_wp2_with fail
    refine bodyPost_ret (v := .tuple #[v2, .int .i64 0]) (by simp [results, Try.results30, go_sem]) rfl ?_
    exact ⟨_, rfl, HO2.out, HB2.out, HK1.out.trans HK2.out⟩
theorem own_lo {B B' : Nat} {w : World} {v : Value} {L : List UInt8} (h : Own B w v L) (hb : B' ≤ B) : Own B' w v L := by
  refine ⟨h.1, ?_⟩
  rcases h.2 with h | ⟨g, cap, cur, e, hg, r⟩
  · exact .inl h
  · exact .inr ⟨g, cap, cur, e, by omega, r⟩

set_option maxRecDepth 100000 in
set_option maxHeartbeats 1000000 in
theorem rAValue_any (b : Value) (L : List UInt8) (k n : Int) (s : ByteArray) (w : World) (h : Reads w b L) (hl : L.length ≤ 4398046511103) (hn : -9223372036854775808 ≤ n) (hn' : n ≤ 9223372036854775807) :
    Calls Try.prog 31 #[b, .agg #[.int .i64 k, .int .i64 n, .string s]] w (OutPost2 w.heap.size w (if vldB k n s then L ++ encV ⟨k, n, s⟩ else []) (if vldB k n s then 0 else 10)) := by
  obtain ⟨x, hx⟩ : ∃ x, vldB k n s = x := ⟨_, rfl⟩
  have HV := Lib.hid (fun W => rValid_any k n s W)
  have HP : Hid (x = true → ∀ b' W, Own w.heap.size W b' L → w.heap.size ≤ W.heap.size → Calls Try.prog 72 #[b', .agg #[.int .i64 k, .int .i64 n, .string s]] W (OutPost w.heap.size W (L ++ encV ⟨k, n, s⟩))) := fun hx2 b' W ho hw =>
    rValue_any w.heap.size _ L k n s W (by rw [hx, hx2]) hn hn' (.inl ho) hl hw
  have HF : Hid (∀ W, Below w.heap.size w W → Calls Try.prog 66 #[b] W (OutPost W.heap.size W L)) := fun W hb => rFresh_any b L W (h.below hb) (by omega)
  have HB0 : Hid (Below w.heap.size w (w.alloc (.cells #[.int .i64 k, .int .i64 n, .string s] 42))) := (Below.refl _ _).alloc (Nat.le_refl _) _
  have HK0 := Lib.hid (Keeps.alloc w (.cells #[.int .i64 k, .int .i64 n, .string s] 42))
  rw [hx] at HV
  rw [hx]
  clear hx h hn hn'
  cases x with
  | false =>
    clear HP
    go_enter Try.func31, Try.ntmps31
    go_wp2_with fail
    refine (HV.out _).mono ?_
    rintro e w1 ⟨rfl, hg⟩
    have HG := Lib.hid hg.below
    clear hg
    go_wp2_with fail
    refine bodyPost_ret (v := .tuple #[.slice none 0 0, .int .i64 10]) (by simp [results, Try.results31, go_sem]) rfl ?_
    exact ⟨_, rfl, Own.nil _ _, HB0.out.trans (HG.out.mono HB0.out.size), HK0.out.trans (Keeps.below HG.out)⟩
  | true =>
    have HPT := Lib.hid (HP.out rfl)
    clear HP
    go_enter Try.func31, Try.ntmps31
    go_wp2_with fail
    refine (HV.out _).mono ?_
    rintro e w1 ⟨rfl, hg⟩
    obtain ⟨p0, p1, p2⟩ := struct_kept (Keeps.below hg.below)
    have hbw : Below w.heap.size w w1 := HB0.out.trans (hg.below.mono HB0.out.size)
    have HK1 : Hid (Keeps w w1) := HK0.out.trans (Keeps.below hg.below)
    have HS : Hid (∀ W, Keeps w1 W → W.cell? ⟨w.heap.size, 0, none⟩ = some (.int .i64 k) ∧ W.cell? ⟨w.heap.size, 1, none⟩ = some (.int .i64 n) ∧ W.cell? ⟨w.heap.size, 2, none⟩ = some (.string s)) := fun W hk => struct_kept ((Keeps.below hg.below).trans hk)
    clear hg
    go_wp2_with fail
    go_region_held3 (fun W => W.cell? ⟨w.heap.size, 0, none⟩ = some (.int .i64 k) ∧ W.cell? ⟨w.heap.size, 1, none⟩ = some (.int .i64 n) ∧ W.cell? ⟨w.heap.size, 2, none⟩ = some (.string s))
      (first | exact ⟨t0, t1, t2⟩ | exact ⟨r0, r1, r2⟩ | exact ⟨p0, p1, p2⟩)
      (first | (go_at_call 66; (with_reducible refine (HF.out _ (by (repeat (first | exact Below.refl _ _ | assumption | refine Below.drew ?_ | refine Below.setCell ?_ (by simp; try omega) _ | refine Below.alloc ?_ (by simp; try omega) _)))).mono ?_); rintro e w2 ⟨v2, rfl, ho, hb, hk⟩; have hb2 : Below w.heap.size w w2 := Below.trans (by (repeat (first | exact Below.refl _ _ | assumption | refine Below.drew ?_ | refine Below.setCell ?_ (by simp; try omega) _ | refine Below.alloc ?_ (by simp; try omega) _))) (hb.mono (by first | exact Below.size (by assumption) | (simp; exact Below.size (by assumption)))); have HK2 : Hid (Keeps w1 w2) := hk; have HO2 : Hid (Own w.heap.size w2 v2 L) := own_lo ho (by first | exact Below.size (by assumption) | (simp; exact Below.size (by assumption))); obtain ⟨r0, r1, r2⟩ := HS.out w2 HK2.out; have hs2 := hb2.size; clear ho hb hk) | (go_at_call 72; (with_reducible refine (HPT.out _ _ (by first | exact HO2.out | exact HO2.out.drew) (by first | omega | (simp; omega))).mono ?_); rintro e w3 ⟨v3, rfl, ho, hb, hk⟩; have HO3 := Lib.hid ho; have HB3 : Hid (Below w.heap.size w w3) := Below.trans (by (repeat (first | exact Below.refl _ _ | assumption | refine Below.drew ?_ | refine Below.setCell ?_ (by simp; try omega) _ | refine Below.alloc ?_ (by simp; try omega) _))) hb; have HK3 : Hid (Keeps w2 w3) := hk; obtain ⟨t0, t1, t2⟩ := HS.out w3 (HK2.out.trans HK3.out); clear ho hb hk))
    go_wp2_with fail
    refine bodyPost_ret (v := .tuple #[v3, .int .i64 0]) (by simp [results, Try.results31, go_sem]) rfl ?_
    exact ⟨_, rfl, HO3.out, HB3.out, HK1.out.trans (HK2.out.trans HK3.out)⟩
set_option maxRecDepth 100000 in
set_option maxHeartbeats 1000000 in
theorem aRow_any (b rv : Value) (L : List UInt8) (l : List V) (w : World) (h : Reads w b L) (hr : RowAt w rv l) (hl : L.length ≤ 4398046500000) (hok : ∀ v ∈ l, InR v) :
    Calls Try.prog 36 #[b, rv] w (OutPost2 w.heap.size w (rowOut L l) (rowErr l)) := by
  obtain ⟨a, ln, c, rfl⟩ := h.form
  obtain ⟨rfl, hlc, hfull⟩ := h.full
  obtain ⟨ra, rc, rfl, hrl, hri⟩ := hr
  by_cases h12 : 12 < l.length
  · have hc : decide ((l.length : Int) > 12) = true := decide_eq_true (by omega)
    have hc2 : decide ((12 : Int) < l.length) = true := decide_eq_true (by omega)
    have hE : rowErr l = 2 := if_pos h12
    have hO : rowOut L l = [] := if_pos h12
    rw [hE, hO]
    clear hri hfull h hok hE hO
    go_enter Try.func36, Try.ntmps36
    go_wp2_with fail
    exact bodyPost_ret (v := .tuple #[.slice none 0 0, .int .i64 2]) (by simp [results, Try.results36, go_sem]) rfl ⟨_, rfl, Own.nil _ _, Below.refl _ _, Keeps.refl _⟩
  · have hc : decide ((l.length : Int) > 12) = false := decide_eq_false (by omega)
    have hc2 : decide ((12 : Int) < l.length) = false := decide_eq_false (by omega)
    have HRI := Lib.hid hri
    have HFULL := Lib.hid hfull
    have HOK := Lib.hid hok
    have HF : Hid (∀ W, Calls Try.prog 64 #[.slice a L.length c] W fun e w' => e = .returned (.slice a L.length L.length) ∧ w' = W) := fun W => fresh_eq a _ _ W hlc
    clear hri hfull hok h
    go_enter Try.func36, Try.ntmps36
    go_wp2_with fail
    go_loopg [15] l.length (fun g i wr => ∃ k : Nat, k ≤ l.length ∧ l.length - k ≤ g ∧ i = .int .i64 k ∧ Hid (vldL (l.take k) = true) ∧ Hid (Below w.heap.size w wr) ∧ Hid (Keeps w wr))
    case atStart => exact ⟨0, by omega, by omega, rfl, rfl, Below.refl _ _, Keeps.refl _⟩
    case round =>
      obtain ⟨k, hk, hg, rfl, hv, hb, hkp⟩ := hrel
      have k0 : (0 : Int) ≤ k := by omega
      by_cases i1 : k < l.length
      · obtain ⟨b1, o1, rfl, hb1, hc1⟩ := HRI.out k i1
        obtain ⟨p, hp⟩ : ∃ p, l[k] = p := ⟨_, rfl⟩
        rw [hp] at hc1
        obtain ⟨p0, p1, p2⟩ := CellsV.below hb.out hb1 hc1
        have i1' : (k : Int) < l.length := by omega
        have HP := Lib.hid hp
        obtain ⟨x, hx⟩ : ∃ x, vldB p.k p.n p.s = x := ⟨_, rfl⟩
        have HV := Lib.hid (vValid_any p.k p.n p.s (wr.alloc (.cells #[.int .i64 p.k, .int .i64 p.n, .string p.s] 42)))
        rw [hx] at HV
        have HX := Lib.hid hx
        have HB2 : Hid (Below w.heap.size w (wr.alloc (.cells #[.int .i64 p.k, .int .i64 p.n, .string p.s] 42))) := hb.out.alloc hb.out.size _
        have HK2 : Hid (Keeps w (wr.alloc (.cells #[.int .i64 p.k, .int .i64 p.n, .string p.s] 42))) := hkp.out.trans (Keeps.alloc _ _)
        clear hx hp hc1
        go_wp2_with fail
        refine HV.out.mono ?_
        rintro e w1 ⟨rfl, hgr⟩
        have HB3 : Hid (Below w.heap.size w w1) := HB2.out.trans (hgr.below.mono HB2.out.size)
        have HK3 : Hid (Keeps w w1) := HK2.out.trans (Keeps.below hgr.below)
        clear hgr
        cases x with
        | false =>
          have hE : rowErr l = 10 := by unfold rowErr; rw [if_neg h12, if_neg (vldL_bad l k i1 (by rw [HP.out]; exact HX.out))]
          have hO : rowOut L l = [] := by unfold rowOut; rw [if_neg h12, if_neg (vldL_bad l k i1 (by rw [HP.out]; exact HX.out))]
          have HE := Lib.hid hE
          have HO := Lib.hid hO
          clear hE hO
          go_wp2_with fail
          exact bodyPost_ret (v := .tuple #[.slice none 0 0, .int .i64 10]) (by simp [results, Try.results36, go_sem]) rfl ⟨_, by rw [HE.out], by rw [HO.out]; exact Own.nil _ _, HB3.out, HK3.out⟩
        | true =>
          go_wp2_with fail
          go_roundg (l.length - (k + 1))
          case measure => omega
          case rel => exact ⟨k + 1, by omega, Nat.le_refl _, by go_num, by show _ = _; rw [vldL_take l k i1, hv.out, HP.out, HX.out]; rfl, HB3, HK3⟩
      · have i1' : ¬ (k : Int) < l.length := by omega
        have i2' : decide ((k : Int) < l.length) = false := decide_eq_false i1'
        have hv2 : vldL l = true := by have := hv.out; rwa [List.take_of_length_le (by omega)] at this
        have hE : rowErr l = 0 := by unfold rowErr; rw [if_neg h12, if_pos hv2]
        have hO : rowOut L l = L ++ (leb l.length ++ encL l) := by unfold rowOut; rw [if_neg h12, if_pos hv2]
        have HV := Lib.hid hv2
        have HW := Lib.hid (IntKind.wrap_u64 (l.length : Int))
        have hW2 : (l.length : Int) % 18446744073709551616 = l.length := by omega
        have HE := Lib.hid hE
        have HO := Lib.hid hO
        clear hE hO hv2
        have HU := Lib.hid (kUint_any w.heap.size _ L l.length wr (.inr (HFULL.out wr hb.out)) (by omega) (by omega) hb.out.size)
        go_wp2_with fail
        refine (HF.out _).mono ?_
        rintro e w1 ⟨rfl, rfl⟩
        go_wp2_with fail
        refine HU.out.mono ?_
        rintro e w2 ⟨v2, rfl, ho, hb2, hk2⟩
        have HO2 := Lib.hid ho
        have HB2 : Hid (Below w.heap.size w w2) := hb.out.trans hb2
        have HK2 : Hid (Keeps w w2) := hkp.out.trans hk2
        clear ho hb2 hk2 HU
        go_wp2_with fail
        go_loopg [0, 31] l.length (fun g b i wr => ∃ k : Nat, k ≤ l.length ∧ l.length - k ≤ g ∧ i = .int .i64 k ∧ Hid (Own w.heap.size wr b (L ++ (leb l.length ++ encL (l.take k)))) ∧ Hid (Below w.heap.size w wr) ∧ Hid (Keeps w wr))
        case atStart => exact ⟨0, by omega, by omega, rfl, by show Own _ _ _ _; simp only [List.take_zero, encL, List.append_nil]; exact HO2.out, HB2, HK2⟩
        case round =>
          obtain ⟨j, hj, hgj, rfl, ho, hb, hkp⟩ := hrel
          have j0 : (0 : Int) ≤ j := by omega
          by_cases i1 : j < l.length
          · obtain ⟨b1, o1, rfl, hb1, hc1⟩ := HRI.out j i1
            obtain ⟨p, hp⟩ : ∃ p, l[j] = p := ⟨_, rfl⟩
            rw [hp] at hc1
            obtain ⟨p0, p1, p2⟩ := CellsV.below hb.out hb1 hc1
            have hpv : vldB p.k p.n p.s = true := by rw [← hp]; exact List.all_eq_true.1 HV.out _ (List.getElem_mem i1)
            have hpr : InR p := by rw [← hp]; exact HOK.out _ (List.getElem_mem i1)
            have i1' : (j : Int) < l.length := by omega
            have HEQ : Hid (L ++ (leb l.length ++ encL (l.take (j + 1))) = L ++ (leb l.length ++ encL (l.take j)) ++ encV ⟨p.k, p.n, p.s⟩) := by
              show _ = _
              rw [List.take_succ_eq_append_getElem i1, encL_app, hp]
              simp [encL]
            have hlen : (L ++ (leb l.length ++ encL (l.take j))).length ≤ 4398046511103 := by
              have h1 := encL_len (l.take j) (List.all_eq_true.2 fun x hx => List.all_eq_true.1 HV.out x (List.mem_of_mem_take hx)) (fun x hx => HOK.out x (List.mem_of_mem_take hx))
              have h2 := leb_len10 l.length (by omega)
              rw [List.length_take] at h1
              simp only [List.length_append]
              omega
            have HB2 : Hid (Below w.heap.size w (wr.alloc (.cells #[.int .i64 p.k, .int .i64 p.n, .string p.s] 42))) := hb.out.alloc hb.out.size _
            have HK2 : Hid (Keeps w (wr.alloc (.cells #[.int .i64 p.k, .int .i64 p.n, .string p.s] 42))) := hkp.out.trans (Keeps.alloc _ _)
            have HV := Lib.hid (kValue_any w.heap.size _ _ p.k p.n p.s (wr.alloc (.cells #[.int .i64 p.k, .int .i64 p.n, .string p.s] 42)) hpv hpr.1 hpr.2 (.inl (World.ownsRow.alloc ho.out _)) hlen HB2.out.size)
            clear hp hc1 hpv hpr hlen
            go_wp2_with fail
            refine HV.out.mono ?_
            rintro e w3 ⟨v3, rfl, ho3, hb3, hk3⟩
            have HO3 := Lib.hid ho3
            have HB3 := Lib.hid hb3
            have HK3 := Lib.hid hk3
            clear ho3 hb3 hk3
            go_wp2_with fail
            go_roundg (l.length - (j + 1))
            case measure => omega
            case rel => exact ⟨j + 1, by omega, Nat.le_refl _, by go_num, by show Own _ _ _ _; rw [HEQ.out]; exact HO3.out, HB2.out.trans HB3.out, HK2.out.trans HK3.out⟩
          · have i1' : ¬ (j : Int) < l.length := by omega
            have i2' : decide ((j : Int) < l.length) = false := decide_eq_false i1'
            have HT : Hid (l.take j = l) := List.take_of_length_le (by omega)
            go_wp2_with fail
            refine bodyPost_ret (by simp [results, Try.results36, go_sem]; rfl) rfl ⟨_, by rw [HE.out], ?_, hb.out, hkp.out⟩
            rw [HO.out]
            have := ho.out
            rw [HT.out] at this
            exact this
end Go.Proofs.Ytkhbephcmcnfjaa
