/- Walks of the functions that append numbers. -/
import Derived.Test.YtkhbephcmcnfjaaPut
import Derived.Outline
import Derived.Deep.RegionHeld3
import Derived.Laws.BitsAllLaws
namespace Go.Proofs.Ytkhbephcmcnfjaa
open Go.RowKit Go.Deep

def OutPost (B : Nat) (w : World) (L : List UInt8) (e : Ending) (w' : World) : Prop := ∃ v, e = .returned v ∧ Own B w' v L ∧ Below B w w' ∧ Keeps w w'

set_option maxRecDepth 100000 in
theorem or_high (a : Nat) (h : a < 256) : a ||| 128 = a % 128 + 128 := by
  have h1 : ∀ x : Fin 256, x.val ||| 128 = x.val % 128 + 128 := by decide
  exact h1 ⟨a, h⟩

set_option maxRecDepth 100000 in
set_option maxHeartbeats 1000000 in
theorem kUint_any (B : Nat) (v : Value) (L : List UInt8) (n : Nat) (w : World) (hb : Buf B w v L) (hn : n ≤ 18446744073709551615) (hl : L.length ≤ 4398046511104) (hB : B ≤ w.heap.size) :
    Calls Try.prog 63 #[v, .int .u64 n] w (OutPost B w (L ++ leb n)) := by
  have hinfo : (Try.prog.info? 5).map (fun i => (i.zero, i.size, i.bytes)) = some (some (.int .u8 0), 1, 1) := by kernel_rfl
  obtain ⟨i0, hi, hz0, hz1, hz2⟩ := info_parts hinfo
  have HI := Lib.hid hi
  have HZ0 := Lib.hid hz0
  have HZ1 := Lib.hid hz1
  have HZ2 := Lib.hid hz2
  have HB := Lib.hid hb
  clear hi hz0 hz1 hz2 hinfo hb
  go_enter Try.func63, Try.ntmps63
  go_wp2_with fail
  go_loopg [0, 1] (leb n).length (fun g b k wr => ∃ (m : Nat) (P : List UInt8), k = .int .u64 m ∧ m ≤ n ∧ (leb m).length ≤ g ∧ (L ++ leb n = P ++ leb m) ∧ Hid (Buf B wr b P) ∧ Hid (Below B w wr) ∧ Hid (Keeps w wr))
  case atStart => exact ⟨n, L, rfl, by omega, by omega, rfl, HB, Below.refl _ _, Keeps.refl _⟩
  case round =>
    obtain ⟨m, P, rfl, hm, hg, hP, hbuf, hbw, hkw⟩ := hrel
    have hsw : w.heap.size ≤ wr.heap.size := hbw.out.size
    have hlen : P.length + (leb m).length ≤ L.length + 10 := by
      have h1 := congrArg List.length hP
      simp only [List.length_append] at h1
      have h2 := leb_len10 n hn
      omega
    have hpos : 0 < (leb m).length := List.length_pos_iff.2 (leb_ne m)
    have hPl : P.length + 1 ≤ 140737488355328 := by omega
    have HP := Lib.hid hP
    clear hP hlen hpos
    by_cases h : m < 128
    · have d1 : decide ((m : Int) ≥ 128) = false := decide_eq_false (by omega)
      have d2 : decide ((128 : Int) ≤ m) = false := decide_eq_false (by omega)
      have HC : Hid ((m : Int) = ((UInt8.ofNat m).toNat : Int)) := by show _ = _; rw [UInt8.toNat_ofNat']; omega
      go_wp2_with (at_builtin; refine wpList_append_byte rfl _ _ (by rfl) i0 HI.out HZ0.out HZ1.out HZ2.out B _ P hbuf.out (by rfl) (UInt8.ofNat m) _ HC.out _ (by rfl) (by rfl) hPl (by omega) ?_; intro v1 w1 ho1 hb1 hk1; have HO1 := Lib.hid ho1; have HB1 := Lib.hid hb1; have HK1 := Lib.hid hk1; clear ho1 hb1 hk1)
      go_ret
      exact ⟨_, rfl, by rw [HP.out, leb_small h]; exact HO1.out, hbw.out.trans HB1.out, hkw.out.trans HK1.out⟩
    · have d1 : decide ((m : Int) ≥ 128) = true := decide_eq_true (by omega)
      have d2 : decide ((128 : Int) ≤ m) = true := decide_eq_true (by omega)
      have HC : Hid (bits .or .u8 ((m : Int) % 256) 128 = ((UInt8.ofNat (m % 128 + 128)).toNat : Int)) := by
        show _ = _
        rw [UInt8.toNat_ofNat', show ((m : Int) % 256) = ((m % 256 : Nat) : Int) by omega, show (128 : Int) = ((128 : Nat) : Int) from rfl, u8_or_nat _ _ (by omega) (by omega), or_high _ (by omega)]
        omega
      go_wp2_with (at_builtin; refine wpList_append_byte rfl _ _ (by rfl) i0 HI.out HZ0.out HZ1.out HZ2.out B _ P hbuf.out (by rfl) (UInt8.ofNat (m % 128 + 128)) _ HC.out _ (by rfl) (by rfl) hPl (by omega) ?_; intro v1 w1 ho1 hb1 hk1; have HO1 := Lib.hid ho1; have HB1 := Lib.hid hb1; have HK1 := Lib.hid hk1; clear ho1 hb1 hk1)
      go_roundg (leb (m / 128)).length
      case measure => rw [leb_more h] at hg; simp only [List.length_cons] at hg; omega
      case rel => exact ⟨m / 128, P ++ [UInt8.ofNat (m % 128 + 128)], by rw [show (m : Int) / 128 = ((m / 128 : Nat) : Int) by omega], by omega, Nat.le_refl _, by rw [HP.out, leb_more h]; simp, .inl HO1.out, hbw.out.trans HB1.out, hkw.out.trans HK1.out⟩
set_option maxRecDepth 100000 in
set_option maxHeartbeats 1000000 in
theorem rUint_any (B : Nat) (v : Value) (L : List UInt8) (n : Nat) (w : World) (hb : Buf B w v L) (hn : n ≤ 18446744073709551615) (hl : L.length ≤ 4398046511104) (hB : B ≤ w.heap.size) :
    Calls Try.prog 65 #[v, .int .u64 n] w (OutPost B w (L ++ leb n)) := by
  have hinfo : (Try.prog.info? 5).map (fun i => (i.zero, i.size, i.bytes)) = some (some (.int .u8 0), 1, 1) := by kernel_rfl
  obtain ⟨i0, hi, hz0, hz1, hz2⟩ := info_parts hinfo
  have HI := Lib.hid hi
  have HZ0 := Lib.hid hz0
  have HZ1 := Lib.hid hz1
  have HZ2 := Lib.hid hz2
  have HB := Lib.hid hb
  clear hi hz0 hz1 hz2 hinfo hb
  go_enter Try.func65, Try.ntmps65
  go_wp2_with fail
  go_loopg [0, 1] (leb n).length (fun g b k wr => ∃ (m : Nat) (P : List UInt8), k = .int .u64 m ∧ m ≤ n ∧ (leb m).length ≤ g ∧ (L ++ leb n = P ++ leb m) ∧ Hid (Buf B wr b P) ∧ Hid (Below B w wr) ∧ Hid (Keeps w wr))
  case atStart => exact ⟨n, L, rfl, by omega, by omega, rfl, HB, Below.refl _ _, Keeps.refl _⟩
  case round =>
    obtain ⟨m, P, rfl, hm, hg, hP, hbuf, hbw, hkw⟩ := hrel
    have hsw : w.heap.size ≤ wr.heap.size := hbw.out.size
    have hlen : P.length + (leb m).length ≤ L.length + 10 := by
      have h1 := congrArg List.length hP
      simp only [List.length_append] at h1
      have h2 := leb_len10 n hn
      omega
    have hpos : 0 < (leb m).length := List.length_pos_iff.2 (leb_ne m)
    have hPl : P.length + 1 ≤ 140737488355328 := by omega
    have HP := Lib.hid hP
    clear hP hlen hpos
    by_cases h : m < 128
    · have d1 : decide ((m : Int) ≥ 128) = false := decide_eq_false (by omega)
      have d2 : decide ((128 : Int) ≤ m) = false := decide_eq_false (by omega)
      have HC : Hid ((m : Int) = ((UInt8.ofNat m).toNat : Int)) := by show _ = _; rw [UInt8.toNat_ofNat']; omega
      go_wp2_with (at_builtin; refine wpList_append_byte rfl _ _ (by rfl) i0 HI.out HZ0.out HZ1.out HZ2.out B _ P hbuf.out (by rfl) (UInt8.ofNat m) _ HC.out _ (by rfl) (by rfl) hPl (by omega) ?_; intro v1 w1 ho1 hb1 hk1; have HO1 := Lib.hid ho1; have HB1 := Lib.hid hb1; have HK1 := Lib.hid hk1; clear ho1 hb1 hk1)
      go_ret
      exact ⟨_, rfl, by rw [HP.out, leb_small h]; exact HO1.out, hbw.out.trans HB1.out, hkw.out.trans HK1.out⟩
    · have d1 : decide ((m : Int) ≥ 128) = true := decide_eq_true (by omega)
      have d2 : decide ((128 : Int) ≤ m) = true := decide_eq_true (by omega)
      have HC : Hid (bits .or .u64 (bits .and .u64 (m : Int) 127) 128 % 256 = ((UInt8.ofNat (m % 128 + 128)).toNat : Int)) := by
        show _ = _
        rw [UInt8.toNat_ofNat', show (127 : Int) = ((127 : Nat) : Int) from rfl, show (128 : Int) = ((128 : Nat) : Int) from rfl, u64_and_nat _ _ (by omega) (by omega), nat_mask7, u64_or_nat _ _ (by omega) (by omega), or_high _ (by omega)]
        omega
      go_wp2_with (at_builtin; refine wpList_append_byte rfl _ _ (by rfl) i0 HI.out HZ0.out HZ1.out HZ2.out B _ P hbuf.out (by rfl) (UInt8.ofNat (m % 128 + 128)) _ HC.out _ (by rfl) (by rfl) hPl (by omega) ?_; intro v1 w1 ho1 hb1 hk1; have HO1 := Lib.hid ho1; have HB1 := Lib.hid hb1; have HK1 := Lib.hid hk1; clear ho1 hb1 hk1)
      go_roundg (leb (m / 128)).length
      case measure => rw [leb_more h] at hg; simp only [List.length_cons] at hg; omega
      case rel => exact ⟨m / 128, P ++ [UInt8.ofNat (m % 128 + 128)], by rw [show (m : Int) / 128 = ((m / 128 : Nat) : Int) by omega], by omega, Nat.le_refl _, by rw [HP.out, leb_more h]; simp, .inl HO1.out, hbw.out.trans HB1.out, hkw.out.trans HK1.out⟩
end Go.Proofs.Ytkhbephcmcnfjaa
