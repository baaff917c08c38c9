/- slices.SortFunc over rows with value.CompareRows, by its contract. -/
import Derived.Test.YtkhbephcmcnfjaaCompact
import Derived.Test.YtkhbephcmcnfjaaSort
namespace Go.Proofs.Ytkhbephcmcnfjaa
open Go.RowKit

/-- A row together with what says that it reads as one. -/
abbrev RowIn (B : Nat) (w : World) := { x : E // RowB B w x.1 x.2 }
instance (B : Nat) (w : World) : Inhabited (RowIn B w) := ⟨⟨(.slice none 0 0, []), none, 0, rfl, by simp, fun i h => absurd h (by simp)⟩⟩
def encR {B : Nat} {w : World} (x : RowIn B w) : Value := x.1.1
def cfR {B : Nat} {w : World} (x y : RowIn B w) : Int := cmpRows x.1.2 y.1.2

theorem sortWorld_below {α : Type} [Inhabited α] (enc : α → Value) (w : World) (blk off m : Nat) (d : Array α) (os : Array Obj) (hblk : blk < w.heap.size) : Below blk w (sortWorld enc w blk off m d os) := by
  refine ⟨rfl, rfl, rfl, ?_, fun k hk => ?_⟩
  · simp [sortWorld, Sort.grow, Sort.putRow, Sort.mapBlock, Sort.ahead]
  · simp only [sortWorld, Sort.grow, Sort.putRow, Sort.mapBlock, Sort.ahead]
    rw [Array.getElem?_append_left (by simp; omega), Array.getElem?_modify, if_neg (by omega)]
theorem ltR {B : Nat} {w : World} (x y : RowIn B w) : (ltOf cfR x y = true) = (cmpRows x.1.2 y.1.2 < 0) := by
  unfold ltOf cfR; exact propext decide_eq_true_iff
theorem ltRf {B : Nat} {w : World} (x y : RowIn B w) : (ltOf cfR x y = false) = ¬ (cmpRows x.1.2 y.1.2 < 0) := by
  unfold ltOf cfR; exact propext decide_eq_false_iff_not
theorem swoR {B : Nat} {w : World} : Sort.SWO (ltOf (cfR (B := B) (w := w))) where
  irrefl x := by
    have := (cmpRows_zero x.1.2 x.1.2).2 rfl
    rw [ltRf]; omega
  trans x y z h1 h2 := by
    rw [ltR] at *
    have a := cmpRows_trans x.1.2 y.1.2 z.1.2 (by omega) (by omega)
    by_cases e : cmpRows x.1.2 z.1.2 = 0
    · have e' := (cmpRows_zero _ _).1 e
      rw [e'] at h1
      have := cmpRows_flip y.1.2 z.1.2
      omega
    · omega
  ntrans x y z h1 h2 := by
    rw [ltRf] at *
    have f1 := cmpRows_flip x.1.2 y.1.2
    have f2 := cmpRows_flip y.1.2 z.1.2
    have f3 := cmpRows_flip x.1.2 z.1.2
    have := cmpRows_trans z.1.2 y.1.2 x.1.2 (by omega) (by omega)
    omega

def SortPost (blk off : Nat) (xs : List E) (w w' : World) : Prop :=
  ∃ ys : List E, ys.Perm xs ∧ (∀ i j (hi : i < ys.length) (hj : j < ys.length), i < j → cmpRows ys[i].2 ys[j].2 ≤ 0) ∧ Below blk w w' ∧ blk < w'.heap.size ∧
    ∀ j (h : j < ys.length), w'.cell? ⟨blk, off + j, none⟩ = some ys[j].1 ∧ w'.frozen? ⟨blk, off + j, none⟩ = false

theorem sort_any (blk off cap : Nat) (xs : List E) (w : World) (hblk : blk < w.heap.size) (hn : xs.length ≤ 4398046511104)
    (hx : ∀ x ∈ xs, RowB blk w x.1 x.2) (hc : ∀ j (h : j < xs.length), w.cell? ⟨blk, off + j, none⟩ = some xs[j].1 ∧ w.frozen? ⟨blk, off + j, none⟩ = false) :
    Calls Try.prog 53 #[.slice (some ⟨blk, off, none⟩) xs.length cap, .func (.func 54) #[] #[]] w fun e w' => e = .returned (.tuple #[]) ∧ SortPost blk off xs w w' := by
  have eg : ∀ args w, (callFunc 54 args).run Try.prog w = .ok (.enter 54 args) w := enters_of Try.func54 (by kernel_rfl) rfl
  let d : Array (RowIn blk w) := (xs.attachWith (fun x => RowB blk w x.1 x.2) hx).toArray
  have hd : d.size = xs.length := by simp [d]
  have hdg : ∀ j (h : j < xs.length), (d[j]!).1 = xs[j] := by
    intro j h
    rw [getElem!_pos d j (by omega)]
    simp [d]
  have hmap : d.toList.map (·.1) = xs := by
    apply List.ext_getElem
    · simp [d]
    · intro i h1 h2
      simp [d]
  have hH : Sort.Holds (encR (B := blk) (w := w)) w blk off d := by
    intro j hj
    have hj' : j < xs.length := by omega
    unfold encR
    rw [hdg j hj']
    exact hc j hj'
  have hcmp : CmpLays1 Try.prog 54 #[] (encR (B := blk) (w := w)) cfR blk off d.size w := by
    intro m os dk _ x y
    have hb := sortWorld_below (encR (B := blk) (w := w)) w blk off m dk os hblk
    have hs := hb.size
    exact vCompareRows_any _ _ _ _ _ ((x.2.below hb (Nat.le_refl _)).at (by omega)) ((y.2.below hb (Nat.le_refl _)).at (by omega))
  have hO : Go.Proofs.OneCell (encR (B := blk) (w := w)) := by
    intro x
    obtain ⟨a, c, e, _⟩ := x.2
    show x.1.1.oneCell' = true
    rw [e]; rfl
  have hcon := Any.slices_SortFunc Try.sortRow encR hO cfR swoR 54 #[] blk off cap d w eg hcmp hH hblk (by omega)
  rw [hd] at hcon
  refine Calls.mono hcon ?_
  rintro e w' ⟨rfl, d', n, os, hp, hs, rfl⟩
  refine ⟨rfl, d'.toList.map (·.1), ?_, ?_, sortWorld_below _ _ _ _ _ _ _ hblk, ?_, ?_⟩
  · have h2 := hp.2.2
    rw [← hd] at h2
    have e1 : (d.extract 0 d.size).toList = d.toList := by simp
    have e2 : (d'.extract 0 d.size).toList = d'.toList := by rw [← hp.1]; simp
    rw [e1, e2] at h2
    have h3 := h2.map (fun x : RowIn blk w => x.1)
    rw [hmap] at h3
    exact h3
  · intro i j hi hj hij
    have hl : d'.size = xs.length := by rw [hp.1, hd]
    simp only [List.length_map, Array.length_toList] at hi hj
    have h := hs i j (Nat.zero_le _) hij (by omega)
    rw [getElem!_pos d' j hj, getElem!_pos d' i hi] at h
    rw [ltRf] at h
    simp only [List.getElem_map, Array.getElem_toList]
    have := cmpRows_flip d'[i].1.2 d'[j].1.2
    omega
  · exact Nat.lt_of_lt_of_le hblk (sortWorld_below (encR (B := blk) (w := w)) w blk off n d' os hblk).size
  · intro j hj
    simp only [List.length_map, Array.length_toList] at hj
    have SWh : SW (encR (B := blk) (w := w)) w blk off d' (sortWorld encR w blk off n d' os) := ⟨n, os, rfl⟩
    have h := SWh.holds hblk hH hp.1 j hj
    rw [getElem!_pos d' j hj] at h
    simpa [encR] using h
end Go.Proofs.Ytkhbephcmcnfjaa
