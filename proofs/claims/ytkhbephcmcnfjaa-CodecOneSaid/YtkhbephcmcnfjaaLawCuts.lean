/- Law CodecCuts: a proper prefix of an encoding is read as ErrTruncated: the call returns true. -/
import Derived.Test.YtkhbephcmcnfjaaBegun2
import Derived.Test.YtkhbephcmcnfjaaCase6
import Derived.Test.YtkhbephcmcnfjaaBack
import Derived.Test.YtkhbephcmcnfjaaDecStart
namespace Go.Proofs.Ytkhbephcmcnfjaa
open Go.RowKit Go.Deep

theorem reads_cut {w : World} {a : Option Addr} {c : Nat} {L : List UInt8} (h : Reads w (.slice a L.length c) L) (j : Nat) (hj : j ≤ L.length) : Reads w (.slice a j c) (L.take j) := by
  obtain ⟨_, _, e, h1, h2, h3, h4⟩ := h
  simp only [Value.slice.injEq] at e
  obtain ⟨rfl, -, rfl⟩ := e
  refine ⟨a, c, by rw [List.length_take, Nat.min_eq_left hj], by rw [List.length_take]; omega, h2, h3, fun p hp i u hi => h4 p hp i u ?_⟩
  simp only [bts, List.getElem?_map, List.getElem?_take] at hi ⊢
  by_cases hjl : i < j
  · rwa [if_pos hjl] at hi
  · rw [if_neg hjl] at hi; simp at hi

theorem readR_cut (l : List V) (j : Nat) (hj : j < (leb l.length ++ encL l).length) (hl : l.length ≤ 12) (hv : vldL l = true) (hr : ∀ v ∈ l, InR v) : readR ((leb l.length ++ encL l).take j) 0 = ([], 0, 20) := by
  unfold readR
  rw [if_neg (by omega), show (0 : Int).toNat = 0 from rfl, rdRow_cut (l := l) (j := j) rfl hj hl hv hr]
theorem readU_cut (n j : Nat) (hj : j < (leb n).length) (hn : n ≤ 18446744073709551615) : readU ((leb n).take j) 0 = (0, 0, 20) := by
  unfold readU
  rw [if_neg (by omega), show (0 : Int).toNat = 0 from rfl, rdUint_cut (n := n) (j := j) rfl hj hn]

set_option maxRecDepth 100000 in
set_option maxHeartbeats 4000000 in
theorem cuts_walk (cv : Value) (cn : Nat) (n t : Nat) (w : World) (hcv : BytesAt w cv cn) (hn : n ≤ 18446744073709551615) (ht : t ≤ 255) :
    Calls Try.prog 10 #[cv, .int .u64 n, .int .u8 t] w fun e w' => e = .returned (.bool true) ∧ Below w.heap.size w w' := by
  have HN := Lib.hid (cNew_any cv cn w hcv)
  clear hcv
  go_enter Try.func10, Try.ntmps10
  go_wp2_with fail
  refine HN.out.mono ?_
  rintro e w1 ⟨bc, rfl, hb1, hbc, hok⟩
  have HB1 := Lib.hid hb1
  have hwt : wrap64 (t : Int) = t := by unfold wrap64; omega
  have hbl := hok.lt
  have HIN := Lib.hid (cInt_any bc _ 5 w1 (by omega) (by omega) hok)
  clear hok HN hb1
  go_wp2_with fail
  refine HIN.out.mono ?_
  rintro e w2 ⟨r, rfl, hr0, hr1, hm2, hok2⟩
  have hr3 : r ≤ 4 := by omega
  obtain ⟨m, rfl⟩ : ∃ m : Nat, r = m := ⟨r.toNat, by omega⟩
  have HB2 : Hid (Below w.heap.size w w2) := HB1.out.trans (hm2.below hbc HB1.out.size)
  have HCL := Lib.hid (cCells_n bc _ m w2 (by omega) hok2)
  clear hm2 hok2 HIN hr0 hr1
  go_wp2_with fail
  refine HCL.out.mono ?_
  rintro e w3 ⟨gv, l, rfl, hll, hlv, hlr, hrt, hm3, hok3⟩
  have HB3 : Hid (Below w.heap.size w w3) := HB2.out.trans (hm3.below hbc HB2.out.size)
  have HR3 := Lib.hid (hrt.rowB.at (Nat.le_refl _))
  have h12 : l.length ≤ 12 := by omega
  obtain ⟨Lb, hLb⟩ : ∃ Lb, Lb = leb l.length ++ encL l := ⟨_, rfl⟩
  have hpos : 0 < Lb.length := by rw [hLb, List.length_append]; have := List.length_pos_iff.2 (leb_ne l.length); omega
  have HLB := Lib.hid hLb
  have HC1 : Hid (∀ W, RowAt W gv l → Calls Try.prog 36 #[.slice none 0 0, gv] W fun e w' => ∃ u, e = .returned (.tuple #[u, .int .i64 0]) ∧ Reads w' u Lb ∧ Below W.heap.size W w') := fun W hW => by
    have := aRow_any (.slice none 0 0) gv [] l W (reads_nil W) hW (by simp) hlr
    rw [show rowOut [] l = Lb by unfold rowOut; rw [if_neg (by omega), if_pos hlv, hLb]; rfl, show rowErr l = 0 by unfold rowErr; rw [if_neg (by omega), if_pos hlv]] at this
    exact this.mono (fun e w' ⟨u, he, ho, hb, _⟩ => ⟨u, he, ho.reads, hb⟩)
  have HRD : Hid (∀ j, j < Lb.length → readR (Lb.take j) 0 = ([], 0, 20)) := fun j hj => by rw [HLB.out] at hj ⊢; exact readR_cut l j hj h12 hlv hlr
  have hlb5 : Lb.length ≤ 1000 := by
    rw [hLb, List.length_append]
    have h1 := leb_len10 l.length (by omega)
    have h2 := encL_len l hlv hlr
    omega
  clear hrt hm3 hok3 hlv hlr hll HCL HB1 HB2 hLb HLB h12
  go_wp2_with fail
  refine (HC1.out _ HR3.out).mono ?_
  rintro e w4 ⟨u, rfl, hu, hb4⟩
  have HB4 : Hid (Below w.heap.size w w4) := HB3.out.trans (hb4.mono HB3.out.size)
  have hu' := hu
  obtain ⟨ua, un, uc, rfl⟩ := hu.form
  obtain ⟨rfl, huc, -⟩ := hu'.full
  have HU := Lib.hid hu
  clear hu hu' hb4 HC1 HR3 HB3
  have hz : ((Lb.length : Int) == 0) = false := by rw [beq_eq_false_iff_ne]; omega
  obtain ⟨j, hj⟩ : ∃ j, j = t % Lb.length := ⟨_, rfl⟩
  have hjl : j < Lb.length := by rw [hj]; exact Nat.mod_lt _ hpos
  have hT : (t : Int).tmod (Lb.length : Int) = (j : Int) := by rw [hj]; rfl
  have hj0 : (0 : Int) ≤ j := by omega
  have hj1 : (j : Int) ≤ uc := by omega
  have HRC := Lib.hid (reads_cut HU.out j (by omega))
  have HER := Lib.hid (eRow_any (.slice ua j uc) (Lb.take j) 0 w4 HRC.out (by rw [List.length_take]; omega))
  rw [HRD.out j hjl] at HER
  clear hj HRD HU
  go_wp2_with fail
  refine HER.out.mono ?_
  rintro e w5 ⟨rv, rfl, -, hb5⟩
  have HB5 : Hid (Below w.heap.size w w5) := HB4.out.trans (hb5.mono HB4.out.size)
  obtain ⟨U, hU⟩ : ∃ U, U = leb n := ⟨_, rfl⟩
  have hUl : U.length ≤ 10 := by rw [hU]; exact leb_len10 n hn
  have hUp : 0 < U.length := by rw [hU]; exact List.length_pos_iff.2 (leb_ne n)
  have HUC : Hid (∀ j, j < U.length → readU (U.take j) 0 = (0, 0, 20)) := fun j hj => by rw [hU] at hj ⊢; exact readU_cut n j hj hn
  have HA := Lib.hid (aUint_any (.slice none 0 0) [] n w5 (reads_nil _) (by simp) hn)
  rw [List.nil_append, ← hU] at HA
  clear hU hb5 HB4 HER HRC hT hj0 hj1 hjl hz
  go_wp2_with fail
  refine HA.out.mono ?_
  rintro e w6 ⟨v, rfl, hv, hb6, -⟩
  have HB6 : Hid (Below w.heap.size w w6) := HB5.out.trans (hb6.mono HB5.out.size)
  have hv1 := hv.reads
  have hv2 := hv1
  obtain ⟨va, vn, vc, rfl⟩ := hv1.form
  obtain ⟨rfl, hvc, -⟩ := hv2.full
  have hz : ((U.length : Int) == 0) = false := by rw [beq_eq_false_iff_ne]; omega
  obtain ⟨i, hi⟩ : ∃ i, i = t % U.length := ⟨_, rfl⟩
  have hil : i < U.length := by rw [hi]; exact Nat.mod_lt _ hUp
  have hT : (t : Int).tmod (U.length : Int) = (i : Int) := by rw [hi]; rfl
  have hi0 : (0 : Int) ≤ i := by omega
  have hi1 : (i : Int) ≤ vc := by omega
  have HRC := Lib.hid (reads_cut hv1 i (by omega))
  have HEU := Lib.hid (eUint_any (.slice va i vc) (U.take i) 0 w6 HRC.out)
  rw [HUC.out i hil] at HEU
  clear hi HUC hv hv1 hv2 hb6 HB5 HA
  go_wp2_with fail
  refine HEU.out.mono ?_
  rintro e w7 ⟨rfl, hb7⟩
  have HB7 : Hid (Below w.heap.size w w7) := HB6.out.trans (hb7.mono HB6.out.size)
  have HBG := Lib.hid (begun2_any w7)
  clear hb7 HEU HRC HB6
  go_wp2_with fail
  refine HBG.out.mono ?_
  rintro e w8 ⟨rfl, hb8⟩
  have HB8 : Hid (Below w.heap.size w w8) := HB7.out.trans (hb8.mono HB7.out.size)
  clear hb8
  go_wp2_with fail
  go_ret
  exact ⟨rfl, HB8.out⟩
end Go.Proofs.Ytkhbephcmcnfjaa
