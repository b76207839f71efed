import Derived.Test.YtgiiegppaleldaaGreatDoorM
import Derived.BigRegion
namespace Go.Proofs.YtgiiegppaleldaaGreatDoor
open Go.RowKit

/-- Thread t comes last in its row. -/
def RK.toLast (K : RK) (t : Nat) : RK := { K with threads := K.threads.modify t (fun u => (u.1, u.2.1, K.last, u.2.2.2)), last := K.last + 1 }
/-- Thread t has n ticks left. -/
def RK.setLeft (K : RK) (t : Nat) (n : Int) : RK := { K with threads := K.threads.modify t (fun u => (u.1, u.2.1, u.2.2.1, n)) }
/-- The blocks of the document's kernel. -/
def RefOwn (y : Nat) (vt vp vl : Value) (k : Nat) : Prop := k = y ∨ vt.ownBlock = some k ∨ vp.ownBlock = some k ∨ vl.ownBlock = some k

theorem map_modify_row {α : Type} (L : List α) (f : α → List Value) (g : α → α) (t : Nat) (u : α) (h : L[t]? = some u) : (L.map f).set t (f (g u)) = (L.modify t g).map f := by
  apply List.ext_getElem?
  intro i
  simp only [List.getElem?_set, List.getElem?_map, List.getElem?_modify, List.length_map]
  by_cases e : t = i
  · subst e
    obtain ⟨hlt, e⟩ := List.getElem?_eq_some_iff.1 h
    simp [hlt, e]
  · simp [e]

theorem RefAt.setCell_th {w : World} {y : Nat} {K : RK} {g n c : Nat} {vp vl : Value} (h : RefAt w y K (.slice (some ⟨g, 0, none⟩) n c) vp vl) {t j : Nat} {u : Int × Int × Int × Int} (f : (Int × Int × Int × Int) → (Int × Int × Int × Int)) (x : Value) (ht : K.threads[t]? = some u) (hj : j < 20) (he : (rtRow u).set j x = rtRow (f u)) :
    RefAt (w.setCell ⟨g, t * 20 + j, none⟩ x) y { K with threads := K.threads.modify t f } (.slice (some ⟨g, 0, none⟩) n c) vp vl := by
  have hl : t < (K.threads.map rtRow).length := by rw [List.length_map]; exact (List.getElem?_eq_some_iff.1 ht).1
  have hrow : (K.threads.map rtRow)[t] = rtRow u := by
    have := List.getElem?_map (f := rtRow) (l := K.threads) (i := t)
    rw [ht, List.getElem?_eq_getElem hl] at this
    simpa using this
  have hs := h.th.set t j x hl hj
  rw [hrow, he, map_modify_row _ _ _ _ _ ht] at hs
  have F : Fr (fun q => q = g) w (w.setCell ⟨g, t * 20 + j, none⟩ x) := (Fr.refl (fun q => q = g) w).setCell (p := ⟨g, t * 20 + j, none⟩) (fun _ => rfl) _
  have ly := (Array.getElem?_eq_some_iff.1 h.blk).1
  refine ⟨(F.block y ly (fun e => h.n1 (by rw [e]; rfl))).trans h.blk, hs, h.pa.kept F (fun q hq e => (h.n4 g rfl).1 (by rw [← e]; exact hq)), h.le.kept F (fun q hq e => (h.n4 g rfl).2 (by rw [← e]; exact hq)), h.n1, h.n2, h.n3, h.n4, h.n5⟩

theorem RefAt.setCell_y {w : World} {y : Nat} {K K' : RK} {vt vp vl : Value} (h : RefAt w y K vt vp vl) {j : Nat} {x : Value} (he : (kc vt vp vl K.sp K.fr K.clock K.last).setIfInBounds j x = kc vt vp vl K'.sp K'.fr K'.clock K'.last) (e1 : K'.threads = K.threads) (e2 : K'.passes = K.passes) (e3 : K'.leaves = K.leaves) :
    RefAt (w.setCell ⟨y, j, none⟩ x) y K' vt vp vl := by
  have F : Fr (fun q => q = y) w (w.setCell ⟨y, j, none⟩ x) := (Fr.refl (fun q => q = y) w).setCell (p := ⟨y, j, none⟩) (fun _ => rfl) _
  refine ⟨?_, ?_, ?_, ?_, h.n1, h.n2, h.n3, h.n4, h.n5⟩
  · rw [← he]; exact heap_setCell_same w y j _ _ _ h.blk
  · rw [e1]; exact h.th.kept F (fun q hq e => h.n1 (by rw [← e]; exact hq))
  · rw [e2]; exact h.pa.kept F (fun q hq e => h.n2 (by rw [← e]; exact hq))
  · rw [e3]; exact h.le.kept F (fun q hq e => h.n3 (by rw [← e]; exact hq))

theorem RefAt.drew {w : World} {y : Nat} {K : RK} {vt vp vl : Value} (h : RefAt w y K vt vp vl) : RefAt w.drew y K vt vp vl := ⟨h.blk, h.th.drew, h.pa.drew, h.le.drew, h.n1, h.n2, h.n3, h.n4, h.n5⟩

theorem RefAt.kept {w w' : World} {y : Nat} {K : RK} {vt vp vl : Value} (h : RefAt w y K vt vp vl) {S : Nat → Prop} (hf : Fr S w w') (hs : ∀ k, RefOwn y vt vp vl k → ¬ S k) : RefAt w' y K vt vp vl :=
  ⟨(hf.block y (Array.getElem?_eq_some_iff.1 h.blk).1 (hs y (.inl rfl))).trans h.blk, h.th.kept hf (fun k hk => hs k (.inr (.inl hk))), h.pa.kept hf (fun k hk => hs k (.inr (.inr (.inl hk)))), h.le.kept hf (fun k hk => hs k (.inr (.inr (.inr hk)))), h.n1, h.n2, h.n3, h.n4, h.n5⟩

set_option maxRecDepth 100000 in
set_option maxHeartbeats 4000000 in
theorem refToLast_any (y : Nat) (K : RK) (vt vp vl : Value) (t : Nat) (w : World) (h : RefAt w y K vt vp vl) (hb : K.threads.length ≤ 6) (ht : t < K.threads.length) (l0 : 0 ≤ K.last) (l1 : K.last ≤ 4611686018427387904) :
    Calls Tryz.prog 47 #[.pointer (some ⟨y, 0, none⟩), .int .i64 t] w fun e w' => e = .returned (.tuple #[]) ∧ RefAt w' y (K.toLast t) vt vp vl ∧ Fr (RefOwn y vt vp vl) w w' := by
  obtain ⟨u, hu⟩ : ∃ u, K.threads[t]? = some u := ⟨_, List.getElem?_eq_getElem ht⟩
  obtain ⟨a, c, ev⟩ := h.th.slice
  rw [List.length_map] at ev
  subst ev
  obtain ⟨m, hn'⟩ : ∃ m, K.threads.length = m := ⟨_, rfl⟩
  rw [hn'] at h hb ht ⊢
  obtain ⟨g, ea, hx⟩ := h.th.is_some (by omega)
  clear hx
  subst ea
  have c0 : w.cell? ⟨y, 0, none⟩ = some (.slice (some ⟨g, 0, none⟩) m c) := (cell_of_row w y 0 _ _ _ h.blk).trans rfl
  have c7 : w.cell? ⟨y, 38, none⟩ = some (.int .i64 K.last) := (cell_of_row w y 38 _ _ _ h.blk).trans rfl
  have f7 : ∀ j, w.frozen? ⟨y, j, none⟩ = false := fun j => frozen_of_row _ _ _ _ _ h.blk
  have fg : ∀ j, w.frozen? ⟨g, j, none⟩ = false := fun j => h.th.fro j
  have cg : w.cell? ⟨g, t * 20 + 3, none⟩ = some (.int .i64 u.2.2.1) := (h.th.row (i := t) (r := rtRow u) (by rw [List.getElem?_map, hu]; rfl)) 3 _ rfl
  have hne : y ≠ g := fun e => h.n1 (by rw [e]; rfl)
  have hne' : g ≠ y := fun e => hne e.symm
  have tm : (t : Int) < (m : Int) := by omega
  have HH := hid (And.intro h (And.intro hu hn'))
  clear h hu hn'
  go_enter Tryz.func47, Tryz.ntmps47
  go_wp2
  go_region
  all_goals
    go_wp2
    go_end0
    obtain ⟨h, hu, hn'⟩ := HH.out
    refine ⟨rfl, ?_, ?_⟩
    · have h1 := h.setCell_th (t := t) (j := 3) (fun u => (u.1, u.2.1, K.last, u.2.2.2)) (.int .i64 K.last) hu (by decide) rfl
      exact (h1.setCell_y (K' := K.toLast t) (j := 38) (x := .int .i64 (K.last + 1)) rfl rfl rfl rfl).drew
    · exact ((((Fr.refl _ w).setCell (p := ⟨g, t * 20 + 3, none⟩) (fun _ => .inr (.inl rfl)) _).setCell (p := ⟨y, 38, none⟩) (fun _ => .inl rfl) _).drew)

theorem RefAt.below {w w' : World} {y : Nat} {K : RK} {vt vp vl : Value} (h : RefAt w y K vt vp vl) (hb : Below w.heap.size w w') : RefAt w' y K vt vp vl := h.kept (Fr.of_below hb (fun _ => False)) (fun _ _ h => h)

set_option maxRecDepth 100000 in
set_option maxHeartbeats 4000000 in
/-- Yield, as there is always a current one. -/
theorem refYield_any (y : Nat) (K : RK) (vt vp vl : Value) (w : World) (h : RefAt w y K vt vp vl) (hb : K.threads.length ≤ 6) (hp : 0 < K.threads.length) (l0 : 0 ≤ K.last) (l1 : K.last ≤ 4611686018427387904) :
    Calls Tryz.prog 24 #[.pointer (some ⟨y, 0, none⟩)] w fun e w' => e = .returned (.int .i64 0) ∧ RefAt w' y ((K.setLeft (curTo K.threads K.threads.length).toNat 3).toLast (curTo K.threads K.threads.length).toNat) vt vp vl ∧ Fr (RefOwn y vt vp vl) w w' := by
  obtain ⟨j, u, ec, hj, hu⟩ : ∃ (j : Nat) (u : Int × Int × Int × Int), curTo K.threads K.threads.length = j ∧ j < K.threads.length ∧ K.threads[j]? = some u := by
    rcases curTo_inv K.threads _ (Nat.le_refl _) with ⟨h0, _⟩ | h1
    · omega
    · exact h1
  rw [ec, Int.toNat_natCast]
  obtain ⟨a, c, ev⟩ := h.th.slice
  rw [List.length_map] at ev
  subst ev
  have hne : K.threads.length ≠ 0 := by omega
  obtain ⟨g, ea, hx⟩ := h.th.is_some hp
  clear hx
  subst ea
  have ly := (Array.getElem?_eq_some_iff.1 h.blk).1
  have HH := hid (And.intro h (And.intro hu (And.intro ec (And.intro hj (And.intro hb (And.intro l0 l1))))))
  obtain ⟨m, hm⟩ : ∃ m, K.threads.length = m := ⟨_, rfl⟩
  have HM := hid hm
  have jm : (j : Int) < (m : Int) := by omega
  have jn : j < m := by omega
  clear h hu ec hj hb hm hp hne
  go_enter Tryz.func24, Tryz.ntmps24
  go_wp2_with fail
  refine (refCurrent_any y K _ vp vl _ HH.out.1 HH.out.2.2.2.2.1).mono ?_
  rintro e w1 ⟨rfl, hb1⟩
  rw [HH.out.2.2.1]
  have h1 := HH.out.1.below hb1
  have c0 : w1.cell? ⟨y, 0, none⟩ = some (.slice (some ⟨g, 0, none⟩) m c) := by rw [← HM.out]; exact (cell_of_row w1 y 0 _ _ _ h1.blk).trans rfl
  have fg : ∀ q, w1.frozen? ⟨g, q, none⟩ = false := fun q => h1.th.fro q
  have cg : w1.cell? ⟨g, j * 20 + 4, none⟩ = some (.int .i64 u.2.2.2) := (h1.th.row (i := j) (r := rtRow u) (by rw [List.getElem?_map, HH.out.2.1]; rfl)) 4 _ rfl
  have H1 := hid (And.intro h1 hb1)
  clear h1 hb1
  go_wp2_with fail
  have h2 := H1.out.1.setCell_th (t := j) (j := 4) (fun u => (u.1, u.2.1, u.2.2.1, 3)) (.int .i64 3) HH.out.2.1 (by decide) rfl
  refine (refToLast_any y (K.setLeft j 3) _ vp vl j _ h2 (by simp [RK.setLeft]; exact HH.out.2.2.2.2.1) (by simp [RK.setLeft]; exact HH.out.2.2.2.1) HH.out.2.2.2.2.2.1 HH.out.2.2.2.2.2.2).mono ?_
  rintro e w2 ⟨rfl, h3, f3⟩
  have H3 := hid (And.intro h3 f3)
  clear h3 f3 h2
  go_wp2
  go_ret
  refine ⟨rfl, H3.out.1, ?_⟩
  exact ((Fr.of_below H1.out.2 _).setCell (p := ⟨g, j * 20 + 4, none⟩) (fun _ => .inr (.inl rfl)) _).trans H3.out.2
end Go.Proofs.YtgiiegppaleldaaGreatDoor
