import Derived.Test.YtgiiegppaleldaaGreatDoorP
import Derived.BigRegion
import Derived.Deep.DeepCutAuto
namespace Go.Proofs.YtgiiegppaleldaaGreatDoor
open Go.RowKit

def findQ (L : List (Int × Int × Int × Int)) (s n : Int) : Option (Int × Int × Int × Int) := L.find? (fun p => p.1 == s && p.2.1 == n)
/-- What Space tells of one list: by rising numbers, the first k of them. -/
def told (L : List (Int × Int × Int × Int)) (s : Int) : Nat → List (Int × Int × Int × Int)
  | 0 => []
  | k + 1 => told L s k ++ (findQ L s k).toList

theorem find_of_ix {L : List (Int × Int × Int × Int)} (ha : Apart L) {s n r : Int} (h : IxOf L s n r) : (r = -1 ∧ findQ L s n = none) ∨ ∃ (i : Nat) (p : Int × Int × Int × Int), r = i ∧ L[i]? = some p ∧ findQ L s n = some p ∧ p.1 = s ∧ p.2.1 = n := by
  rcases h with ⟨rfl, hno⟩ | ⟨i, p, rfl, hp, h1, h2⟩
  · left
    refine ⟨rfl, ?_⟩
    unfold findQ
    rw [List.find?_eq_none]
    intro q hq
    obtain ⟨j, hj⟩ := List.getElem?_of_mem hq
    have := hno j q hj
    simpa using this
  · right
    refine ⟨i, p, rfl, hp, ?_, h1, h2⟩
    unfold findQ
    cases hf : L.find? (fun p => p.1 == s && p.2.1 == n) with
    | none =>
      rw [List.find?_eq_none] at hf
      have := hf p (List.mem_of_getElem? hp)
      simp [h1, h2] at this
    | some q =>
      have hq := List.find?_some hf
      obtain ⟨j, hj⟩ := List.getElem?_of_mem (List.mem_of_find?_eq_some hf)
      simp at hq
      rcases Nat.lt_trichotomy i j with hij | hij | hij
      · exact absurd ⟨by rw [h1, hq.1], by rw [h2, hq.2]⟩ (ha j i q p hij hj hp)
      · subst hij; rw [hp] at hj; exact hj.symm
      · exact absurd ⟨by rw [h1, hq.1], by rw [h2, hq.2]⟩ (ha i j p q hij hp hj)

theorem told_le (L : List (Int × Int × Int × Int)) (s : Int) : ∀ k, (told L s k).length ≤ k
  | 0 => by simp [told]
  | k + 1 => by
    have := told_le L s k
    simp only [told, List.length_append]
    cases findQ L s k <;> simp <;> omega

set_option maxRecDepth 100000 in
set_option maxHeartbeats 4000000 in
theorem refSpace_no (y : Nat) (K : RK) (vt vp vl : Value) (t : Int) (w : World) (h : RefAt w y K vt vp vl) (s1 : 1 ≤ K.sp) (s2 : K.sp ≤ 3) (ht : ¬ (0 ≤ t ∧ t < K.sp)) :
    Calls Tryz.prog 71 #[.pointer (some ⟨y, 0, none⟩), .int .i64 t] w fun e w' => e = .returned (.tuple #[.agg #[.slice none 0 0, .slice none 0 0], .int .i64 3]) ∧ Below w.heap.size w w' := by
  have c0 : w.cell? ⟨y, 1, none⟩ = some (.int .i64 K.sp) := (cell_of_row w y 1 _ _ _ h.blk).trans rfl
  have ly := (Array.getElem?_eq_some_iff.1 h.blk).1
  have hi : inI t 0 (K.sp - 1) = false := inI_false.2 (by omega)
  clear h ht
  go_enter Tryz.func71, Tryz.ntmps71
  go_wp2_with (go_at_call 61; refine (in_any _ _ _ _).mono ?_; rintro e w1 ⟨rfl, rfl⟩)
  refine bodyPost_ret (v := .tuple #[.agg #[.slice none 0 0, .slice none 0 0], .int .i64 3]) (results_row_tmp Tryz.results71 _ _ w.heap.size 143 _ (0, 0) _ _ rfl (heap_alloc_new w _) Tryz.underlying143 rfl (by kernel_rfl) rfl) rfl ⟨rfl, (Below.refl _ w).alloc (Nat.le_refl _) _⟩

set_option maxRecDepth 100000 in
set_option maxHeartbeats 8000000 in
theorem refSpace_yes (y : Nat) (K : RK) (vt vp vl : Value) (t : Int) (w : World) (h : RefAt w y K vt vp vl) (s1 : 1 ≤ K.sp) (s2 : K.sp ≤ 3) (t0 : 0 ≤ t) (t1 : t < K.sp) (aq : Apart K.passes) (al : Apart K.leaves) (bq : K.passes.length ≤ 1000000000000) (bl : K.leaves.length ≤ 1000000000000) :
    Calls Tryz.prog 71 #[.pointer (some ⟨y, 0, none⟩), .int .i64 t] w fun e w' => ∃ v u, e = .returned (.tuple #[.agg #[v, u], .int .i64 0]) ∧ Sl w' 67 4 v ((told K.passes t 6).map qRow) ∧ Sl w' 69 4 u ((told K.leaves t 6).map qRow) ∧ Below w.heap.size w w' ∧
      (∀ q, v.ownBlock = some q ∨ u.ownBlock = some q → w.heap.size ≤ q) := by
  have c0 : w.cell? ⟨y, 1, none⟩ = some (.int .i64 K.sp) := (cell_of_row w y 1 _ _ _ h.blk).trans rfl
  have ly := (Array.getElem?_eq_some_iff.1 h.blk).1
  have hi : inI t 0 (K.sp - 1) = true := inI_true.2 (by omega)
  have HH := hid (And.intro h (And.intro aq (And.intro al (And.intro bq bl))))
  clear h aq al bq bl
  obtain ⟨i2, hi2, hx0, hx1, hx2⟩ := info_parts Tryz.infoN67
  obtain ⟨i3, hi3, hy0, hy1, hy2⟩ := info_parts Tryz.infoN69
  go_enter Tryz.func71, Tryz.ntmps71
  go_wp2_with (go_at_call 61; refine (in_any _ _ _ _).mono ?_; rintro e w1 ⟨rfl, rfl⟩)
  clear hi c0
  go_loopw [8] (fun i wr => ∃ (k : Nat) (vo : Value), k ≤ 6 ∧ i = .int .i64 k ∧ Hid (wr.heap[w.heap.size]? = some (.cells #[.slice none 0 0, .slice none 0 0] 143 (0, 0))) ∧ Hid (wr.heap[w.heap.size + 1]? = some (.cells #[vo, .slice none 0 0] 143 (0, 0))) ∧ Sl wr 67 4 vo ((told K.passes t k).map qRow) ∧ Hid (∀ q, vo.ownBlock = some q → w.heap.size + 2 ≤ q) ∧ Below w.heap.size w wr) (fun i _ => 6 - (intOf i).toNat)
  case atStart => exact ⟨0, _, by omega, rfl, heap_alloc2_old w _ _, heap_alloc2_new w _ _, Sl.nil _ _ _, fun q h => by simp [Value.ownBlock] at h, ((Below.refl _ w).alloc (Nat.le_refl _) _).alloc (by simp) _⟩
  case round =>
    obtain ⟨k, vo, hk, rfl, hr0, hr1, hs, hq, hw⟩ := hrel
    by_cases hlt : k < 6
    · have hR := HH.out.1.below hw
      have H1 := hid (And.intro hr0.out (And.intro hr1.out (And.intro hs (And.intro hq.out hw))))
      obtain ⟨ao, co, eo⟩ := hs.slice
      clear hr0 hr1 hs hw
      go_wp2_with fail
      refine (refPass_any y K vt vp vl t k _ hR HH.out.2.2.2.1).mono ?_
      rintro e w2 ⟨r, rfl, hix, hw2⟩
      have hw3 := hw2.symm
      subst hw3
      clear hw2
      rcases find_of_ix HH.out.2.1 hix with ⟨rfl, hf⟩ | ⟨i, p, rfl, hp, hf, f1, f2⟩
      · have ET : Hid (told K.passes t (k + 1) = told K.passes t k) := by unfold Hid; simp [told, hf]
        clear hix hf hR
        go_wp2
        first
          | exact ⟨⟨k + 1, vo, by omega, by go_num, H1.out.1, H1.out.2.1, by rw [ET.out]; exact H1.out.2.2.1, hq, H1.out.2.2.2.2⟩, by simp [intOf]; omega⟩
          | (go_roundw
             case rel => exact ⟨k + 1, vo, by omega, by go_num, H1.out.1, H1.out.2.1, by rw [ET.out]; exact H1.out.2.2.1, hq, H1.out.2.2.2.2⟩
             case measure => simp [intOf]; omega)
      · have ET : Hid (told K.passes t (k + 1) = told K.passes t k ++ [p]) := by unfold Hid; simp [told, hf]
        have hle := told_le K.passes t k
        obtain ⟨n, en⟩ : ∃ n, (told K.passes t k).length = n := ⟨_, rfl⟩
        rw [List.length_map, en] at eo
        subst eo
        obtain ⟨av, cv, ev⟩ := hR.pa.slice
        rw [List.length_map] at ev
        obtain ⟨m, em⟩ : ∃ m, K.passes.length = m := ⟨_, rfl⟩
        rw [em] at ev
        have im : i < m := by have := (List.getElem?_eq_some_iff.1 hp).1; omega
        obtain ⟨g, ea, hx⟩ := (show Sl wr 67 4 (.slice av m cv) _ from ev ▸ hR.pa).is_some (by omega)
        clear hx
        subst ea
        have yc : wr.cell? ⟨y, 2, none⟩ = some (.slice (some ⟨g, 0, none⟩) m cv) := by rw [← ev]; exact (cell_of_row wr y 2 _ _ _ hR.blk).trans rfl
        have rr := (show Sl wr 67 4 (.slice (some ⟨g, 0, none⟩) m cv) _ from ev ▸ hR.pa).row (i := i) (r := [.int .i64 p.1, .int .i64 p.2.1, .int .i64 p.2.2.1, .int .i64 p.2.2.2]) (by rw [List.getElem?_map, hp]; rfl)
        have g0 := rr 0 (.int .i64 p.1) rfl
        have g1 := rr 1 (.int .i64 p.2.1) rfl
        have g2 := rr 2 (.int .i64 p.2.2.1) rfl
        have g3 := rr 3 (.int .i64 p.2.2.2) rfl
        simp only [Nat.add_zero] at g0
        have oc : wr.cell? ⟨w.heap.size + 1, 0, none⟩ = some (.slice ao n co) := (cell_of_row wr _ 0 _ _ _ H1.out.2.1).trans rfl
        have mb : (m : Int) ≤ 1000000000000 := by have := HH.out.2.2.2.1; omega
        have im' : (i : Int) < (m : Int) := by omega
        have lo : w.heap.size + 1 < wr.heap.size := (Array.getElem?_eq_some_iff.1 H1.out.2.1).1
        have lg : g < wr.heap.size := block_lt_of_cell g0
        have ly' : y < wr.heap.size := block_lt_of_cell yc
        generalize hRr : (told K.passes t k).map qRow = R at H1
        have ER : Hid ((told K.passes t k).map qRow = R) := hRr
        have hRl : Hid (R.length = n) := by unfold Hid; rw [← hRr, List.length_map, en]
        have nb : n ≤ 6 := by omega
        have FH := hid (And.intro f1 f2)
        clear hRr hix hf hR ev em rr hp en hle f1 f2
        go_wp2_with fail
        go_region_law (refine step_append_sl _ rfl _ _ 37 rfl 67 i2 _ 4 32 Tryz.underlying37 hi2 hx0 hx1 hx2 rfl (by decide) (.slice ao n co) R (by simp [Act.eval]) ((H1.out.2.2.1.alloc _).drew) ⟨wr.heap.size, 0, none⟩ 1 1 [[.int .i64 p.1, .int .i64 p.2.1, .int .i64 p.2.2.1, .int .i64 p.2.2.2]] (by simp [Act.eval]) rfl (by decide) (by simp) (fun j u h => cell_news wr #[.int .i64 p.1, .int .i64 p.2.1, .int .i64 p.2.2.1, .int .i64 p.2.2.2] 67 j u (by simpa using h)) (fun u hu => by simp at hu; rcases hu with rfl | rfl | rfl | rfl <;> rfl) (by have := hRl.out; unfold maxLen; omega) (by have := hRl.out; omega) ?_; intro a4 c4 w4 G4; have hb4 : Hid (w4.heap[w.heap.size + 1]? = some (.cells #[.slice ao n co, .slice none 0 0] 143 (0, 0))) := (G4.old (by simp; omega) (fun h => by have := hq.out _ h; omega)).trans ((((Fr.refl (fun _ => False) wr).alloc _).drew.block _ lo id).trans H1.out.2.1); have hc4 : w4.cell? ⟨w.heap.size + 1, 0, none⟩ = some (.slice ao n co) := (cell_of_row w4 _ 0 _ _ _ hb4.out).trans rfl; have hf4 : w4.frozen? ⟨w.heap.size + 1, 0, none⟩ = false := frozen_of_row _ _ _ _ _ hb4.out)
        all_goals
          go_wp2
          have F4 : Fr (fun q => Value.ownBlock (.slice ao n co) = some q) wr w4 := G4.fr (((Fr.refl _ wr).alloc _).drew) (fun q hq' _ => hq')
          have F5 : Fr (fun q => q = w.heap.size + 1) w4 (w4.setCell ⟨w.heap.size + 1, 0, none⟩ (.slice a4 (R.length + 1) c4)) := (Fr.refl (fun q => q = w.heap.size + 1) w4).setCell (p := ⟨w.heap.size + 1, 0, none⟩) (fun _ => rfl) _
          have ub : Hid (∀ q, Value.ownBlock (.slice a4 (R.length + 1) c4) = some q → w.heap.size + 2 ≤ q) := fun q hq' => by
            rcases G4.at_ q hq' with h | h
            · have h2 : wr.heap.size + 1 ≤ q := by simpa using h
              omega
            · exact hq.out q h
          have lw0 := (Array.getElem?_eq_some_iff.1 H1.out.1).1
          have E0 : Hid ((w4.setCell ⟨w.heap.size + 1, 0, none⟩ (.slice a4 (R.length + 1) c4)).heap[w.heap.size]? = some (.cells #[.slice none 0 0, .slice none 0 0] 143 (0, 0))) := (F5.block _ (by have := F4.size; omega) (by omega)).trans ((F4.block _ lw0 (fun h => by have := hq.out _ h; omega)).trans H1.out.1)
          have E2 : Sl (w4.setCell ⟨w.heap.size + 1, 0, none⟩ (.slice a4 (R.length + 1) c4)) 67 4 (.slice a4 (R.length + 1) c4) ((told K.passes t (k + 1)).map qRow) := by
            rw [ET.out, List.map_append, ER.out]
            exact G4.sl.kept F5 (fun q hq' h => by have := ub.out q hq'; omega)
          have E3 : Below w.heap.size w (w4.setCell ⟨w.heap.size + 1, 0, none⟩ (.slice a4 (R.length + 1) c4)) := (H1.out.2.2.2.2.trans (F4.to_below H1.out.2.2.2.2.size (fun q h => by have := hq.out q h; omega))).trans (F5.to_below (by have := F4.size; have := H1.out.2.2.2.2.size; omega) (fun q h => by omega))
          first
            | exact ⟨⟨k + 1, .slice a4 (R.length + 1) c4, by omega, by go_num, E0, heap_setCell_same w4 _ 0 _ _ _ hb4.out, E2, ub, E3⟩, by simp [intOf]; omega⟩
            | (go_roundw
               case rel => exact ⟨k + 1, .slice a4 (R.length + 1) c4, by omega, by go_num, E0, heap_setCell_same w4 _ 0 _ _ _ hb4.out, E2, ub, E3⟩
               case measure => simp [intOf]; omega)
    · have ek : k = 6 := by omega
      rw [ek] at hs
      clear ek
      have H1 := hid (And.intro hr0.out (And.intro hr1.out (And.intro hs (And.intro hq.out hw))))
      clear hr0 hr1 hs hw
      go_wp2_with fail
      obtain ⟨ao, co, eo⟩ := H1.out.2.2.1.slice
      obtain ⟨no, hno⟩ : ∃ n, ((told K.passes t 6).map qRow).length = n := ⟨_, rfl⟩
      rw [hno] at eo
      subst eo
      clear hno
      go_loopw [10] (fun i wr => ∃ (k : Nat) (vu : Value), k ≤ 6 ∧ i = .int .i64 k ∧ Hid (wr.heap[w.heap.size]? = some (.cells #[.slice none 0 0, .slice none 0 0] 143 (0, 0))) ∧ Hid (wr.heap[w.heap.size + 1]? = some (.cells #[.slice ao no co, vu] 143 (0, 0))) ∧ Sl wr 67 4 (.slice ao no co) ((told K.passes t 6).map qRow) ∧ Sl wr 69 4 vu ((told K.leaves t k).map qRow) ∧ Hid (∀ q, vu.ownBlock = some q → w.heap.size + 2 ≤ q ∧ Value.ownBlock (.slice ao no co) ≠ some q) ∧ Below w.heap.size w wr) (fun i _ => 6 - (intOf i).toNat)
      case atStart => exact ⟨0, _, by omega, rfl, H1.out.1, H1.out.2.1, H1.out.2.2.1, Sl.nil _ _ _, fun q h => by simp [Value.ownBlock] at h, H1.out.2.2.2.2⟩
      case round =>
        obtain ⟨k, vu, hk2, rfl, hr0, hr1, hs0, hs, hqu, hw⟩ := hrel
        have H2 := hid (And.intro hr0.out (And.intro hr1.out (And.intro hs0 (And.intro hs hw))))
        by_cases hlt2 : k < 6
        · have hR := HH.out.1.below hw
          obtain ⟨au, cu, eu⟩ := hs.slice
          clear hr0 hr1 hs0 hs hw
          go_wp2_with fail
          refine (refLeaf_any y K vt vp vl t k _ hR HH.out.2.2.2.2).mono ?_
          rintro e w2 ⟨r, rfl, hix, hw2⟩
          have hw3 := hw2.symm
          subst hw3
          clear hw2
          rcases find_of_ix HH.out.2.2.1 hix with ⟨rfl, hf⟩ | ⟨i, p, rfl, hp, hf, f1, f2⟩
          · have ET : Hid (told K.leaves t (k + 1) = told K.leaves t k) := by unfold Hid; simp [told, hf]
            clear hix hf hR
            go_wp2
            first
              | exact ⟨⟨k + 1, vu, by omega, by go_num, H2.out.1, H2.out.2.1, H2.out.2.2.1, by rw [ET.out]; exact H2.out.2.2.2.1, hqu, H2.out.2.2.2.2⟩, by simp [intOf]; omega⟩
              | (go_roundw
                 case rel => first | exact ⟨k + 1, vu, by omega, by go_num, H2.out.1, H2.out.2.1, H2.out.2.2.1, by rw [ET.out]; exact H2.out.2.2.2.1, hqu, H2.out.2.2.2.2⟩ | ((repeat apply Exists.intro); exact ⟨⟨k + 1, vu, by omega, by go_num, H2.out.1, H2.out.2.1, H2.out.2.2.1, by rw [ET.out]; exact H2.out.2.2.2.1, hqu, H2.out.2.2.2.2⟩, rfl⟩)
                 case measure => simp [intOf]; omega)
          · have ET : Hid (told K.leaves t (k + 1) = told K.leaves t k ++ [p]) := by unfold Hid; simp [told, hf]
            have hle := told_le K.leaves t k
            obtain ⟨n, en⟩ : ∃ n, (told K.leaves t k).length = n := ⟨_, rfl⟩
            rw [List.length_map, en] at eu
            subst eu
            obtain ⟨av, cv, ev⟩ := hR.le.slice
            rw [List.length_map] at ev
            obtain ⟨m, em⟩ : ∃ m, K.leaves.length = m := ⟨_, rfl⟩
            rw [em] at ev
            have im : i < m := by have := (List.getElem?_eq_some_iff.1 hp).1; omega
            obtain ⟨g, ea, hx⟩ := (show Sl wr 118 6 (.slice av m cv) _ from ev ▸ hR.le).is_some (by omega)
            clear hx
            subst ea
            have yc : wr.cell? ⟨y, 3, none⟩ = some (.slice (some ⟨g, 0, none⟩) m cv) := by rw [← ev]; exact (cell_of_row wr y 3 _ _ _ hR.blk).trans rfl
            have RR := hid ((show Sl wr 118 6 (.slice (some ⟨g, 0, none⟩) m cv) _ from ev ▸ hR.le).row (i := i) (r := [.int .i64 p.1, .int .i64 p.2.1, .int .i64 p.2.2.1, .int .i64 p.2.2.2, .int .i64 (-1), .int .i64 (-1)]) (by rw [List.getElem?_map, hp]; rfl))
            have oc : wr.cell? ⟨w.heap.size + 1, 1, none⟩ = some (.slice au n cu) := (cell_of_row wr _ 1 _ _ _ H2.out.2.1).trans rfl
            have mb : (m : Int) ≤ 1000000000000 := by have := HH.out.2.2.2.2; omega
            have im' : (i : Int) < (m : Int) := by omega
            have lo : w.heap.size + 1 < wr.heap.size := (Array.getElem?_eq_some_iff.1 H2.out.2.1).1
            have ly' : y < wr.heap.size := block_lt_of_cell yc
            generalize hRr : (told K.leaves t k).map qRow = R at H2
            have ER : Hid ((told K.leaves t k).map qRow = R) := hRr
            have hRl : Hid (R.length = n) := by unfold Hid; rw [← hRr, List.length_map, en]
            have nb : n ≤ 6 := by omega
            have FH := hid (And.intro f1 f2)
            clear hRr hix hf hR ev em hp en hle f1 f2
            go_wp2_with (first
              | (with_reducible (show wpList _ _ _ (⟨_, .load 118 _, _, _, _, none⟩ :: _) _ _); go_must (refine wpList_load_mid rfl 118 _ rfl g (i * 6) rfl _ _ RR.out Tryz.underlying118 rfl (by kernel_rfl) ?_))
              | (at_builtin; go_must (refine wpList_append_sl _ rfl _ _ 38 rfl 69 i3 _ 4 32 Tryz.underlying38 hi3 hy0 hy1 hy2 rfl (by decide) (.slice au n cu) R rfl ((H2.out.2.2.2.1.alloc _).alloc _) ⟨wr.heap.size + 1, 0, none⟩ 1 1 [[.int .i64 t, .int .i64 k, .int .i64 p.2.2.1, .int .i64 p.2.2.2]] rfl rfl (by decide) (by simp) (fun j u h => cell_news2 wr _ #[.int .i64 t, .int .i64 k, .int .i64 p.2.2.1, .int .i64 p.2.2.2] 69 j u (by simpa using h)) (fun u hu => by simp at hu; rcases hu with rfl | rfl | rfl | rfl <;> rfl) (by have := hRl.out; unfold maxLen; omega) (by have := hRl.out; omega) ?_); intro a4 c4 w4 G4; have hb4 : Hid (w4.heap[w.heap.size + 1]? = some (.cells #[.slice ao no co, .slice au n cu] 143 (0, 0))) := (G4.old (by simp; omega) (fun h => by have := (hqu.out _ h).1; omega)).trans ((((Fr.refl (fun _ => False) wr).alloc _).alloc _).block _ lo id |>.trans H2.out.2.1); have hc4 : w4.cell? ⟨w.heap.size + 1, 1, none⟩ = some (.slice au n cu) := (cell_of_row w4 _ 1 _ _ _ hb4.out).trans rfl; have hf4 : w4.frozen? ⟨w.heap.size + 1, 1, none⟩ = false := frozen_of_row _ _ _ _ _ hb4.out))
            have F4 : Fr (fun q => Value.ownBlock (.slice au n cu) = some q) wr w4 := G4.fr (((Fr.refl _ wr).alloc _).alloc _) (fun q hq' _ => hq')
            have F5 : Fr (fun q => q = w.heap.size + 1) w4 (w4.setCell ⟨w.heap.size + 1, 1, none⟩ (.slice a4 (R.length + 1) c4)) := (Fr.refl (fun q => q = w.heap.size + 1) w4).setCell (p := ⟨w.heap.size + 1, 1, none⟩) (fun _ => rfl) _
            have ub : Hid (∀ q, Value.ownBlock (.slice a4 (R.length + 1) c4) = some q → w.heap.size + 2 ≤ q ∧ Value.ownBlock (.slice ao no co) ≠ some q) := fun q hq' => by
              rcases G4.at_ q hq' with h | h
              · have h2 : wr.heap.size + 1 + 1 ≤ q := by simpa using h
                exact ⟨by omega, fun h3 => by have := H2.out.2.2.1.lt h3; omega⟩
              · exact hqu.out q h
            have lw0 := (Array.getElem?_eq_some_iff.1 H2.out.1).1
            have E0 : Hid ((w4.setCell ⟨w.heap.size + 1, 1, none⟩ (.slice a4 (R.length + 1) c4)).heap[w.heap.size]? = some (.cells #[.slice none 0 0, .slice none 0 0] 143 (0, 0))) := (F5.block _ (by have := F4.size; omega) (by omega)).trans ((F4.block _ lw0 (fun h => by have := (hqu.out _ h).1; omega)).trans H2.out.1)
            have E1 : Sl (w4.setCell ⟨w.heap.size + 1, 1, none⟩ (.slice a4 (R.length + 1) c4)) 67 4 (.slice ao no co) ((told K.passes t 6).map qRow) := (H2.out.2.2.1.kept F4 (fun q hq' h => (hqu.out q h).2 hq')).kept F5 (fun q hq' h => by have := H1.out.2.2.2.1 q hq'; omega)
            have E2 : Sl (w4.setCell ⟨w.heap.size + 1, 1, none⟩ (.slice a4 (R.length + 1) c4)) 69 4 (.slice a4 (R.length + 1) c4) ((told K.leaves t (k + 1)).map qRow) := by
              have e1 : qRow p = [.int .i64 t, .int .i64 k, .int .i64 p.2.2.1, .int .i64 p.2.2.2] := by unfold qRow; rw [FH.out.1, FH.out.2]
              rw [ET.out, List.map_append, ER.out, List.map_cons, List.map_nil, e1]
              exact G4.sl.kept F5 (fun q hq' h => by have := (ub.out q hq').1; omega)
            have E3 : Below w.heap.size w (w4.setCell ⟨w.heap.size + 1, 1, none⟩ (.slice a4 (R.length + 1) c4)) := (H2.out.2.2.2.2.trans (F4.to_below H2.out.2.2.2.2.size (fun q h => by have := (hqu.out q h).1; omega))).trans (F5.to_below (by have := F4.size; have := H2.out.2.2.2.2.size; omega) (fun q h => by omega))
            first
              | exact ⟨⟨k + 1, .slice a4 (R.length + 1) c4, by omega, by go_num, E0, heap_setCell_same w4 _ 1 _ _ _ hb4.out, E1, E2, ub, E3⟩, by simp [intOf]; omega⟩
              | (go_roundw
                 case rel => first | exact ⟨k + 1, .slice a4 (R.length + 1) c4, by omega, by go_num, E0, heap_setCell_same w4 _ 1 _ _ _ hb4.out, E1, E2, ub, E3⟩ | ((repeat apply Exists.intro); exact ⟨⟨k + 1, .slice a4 (R.length + 1) c4, by omega, by go_num, E0, heap_setCell_same w4 _ 1 _ _ _ hb4.out, E1, E2, ub, E3⟩, rfl⟩)
                 case measure => simp [intOf]; omega)
        · have ek : k = 6 := by omega
          rw [ek] at H2
          clear ek hs0 hs hr0 hr1 hw
          obtain ⟨au, cu, eu⟩ := H2.out.2.2.2.1.slice
          obtain ⟨nu, hnu⟩ : ∃ n, ((told K.leaves t 6).map qRow).length = n := ⟨_, rfl⟩
          rw [hnu] at eu
          subst eu
          clear hnu
          have o0 : wr.cell? ⟨w.heap.size + 1, 0, none⟩ = some (.slice ao no co) := (cell_of_row wr _ 0 _ _ _ H2.out.2.1).trans rfl
          have o1 : wr.cell? ⟨w.heap.size + 1, 1, none⟩ = some (.slice au nu cu) := (cell_of_row wr _ 1 _ _ _ H2.out.2.1).trans rfl
          have r0 : wr.cell? ⟨w.heap.size, 0, none⟩ = some (.slice none 0 0) := (cell_of_row wr _ 0 _ _ _ H2.out.1).trans rfl
          have r1 : wr.cell? ⟨w.heap.size, 1, none⟩ = some (.slice none 0 0) := (cell_of_row wr _ 1 _ _ _ H2.out.1).trans rfl
          have fr : ∀ j, wr.frozen? ⟨w.heap.size, j, none⟩ = false := fun j => frozen_of_row _ _ _ _ _ H2.out.1
          go_wp2
          have E := heap_setCell_same _ w.heap.size 1 _ 143 (.slice au nu cu) (heap_setCell_same wr w.heap.size 0 _ 143 (.slice ao no co) H2.out.1)
          have F : Fr (fun q => q = w.heap.size) wr ((wr.setCell ⟨w.heap.size, 0, none⟩ (.slice ao no co)).setCell ⟨w.heap.size, 1, none⟩ (.slice au nu cu)) := ((Fr.refl (fun q => q = w.heap.size) wr).setCell (p := ⟨w.heap.size, 0, none⟩) (fun _ => rfl) _).setCell (p := ⟨w.heap.size, 1, none⟩) (fun _ => rfl) _
          refine bodyPost_ret (v := .tuple #[.agg #[.slice ao no co, .slice au nu cu], .int .i64 0]) (results_row_tmp Tryz.results71 _ _ w.heap.size 143 _ (0, 0) _ _ rfl E Tryz.underlying143 rfl (by kernel_rfl) rfl) rfl ⟨_, _, rfl, H2.out.2.2.1.kept F (fun q hq' h => by have := H1.out.2.2.2.1 q hq'; omega), H2.out.2.2.2.1.kept F (fun q hq' h => by have := (hqu.out q hq').1; omega), H2.out.2.2.2.2.trans (F.to_below H2.out.2.2.2.2.size (fun q h => by omega)), fun q h => ?_⟩
          rcases h with h | h
          · have := H1.out.2.2.2.1 q h; omega
          · have := (hqu.out q h).1; omega
end Go.Proofs.YtgiiegppaleldaaGreatDoor

namespace Go.Proofs.YtgiiegppaleldaaGreatDoor
open Go.RowKit

def exT : List (Int × Int) := [(0, 1), (1, 1)]
def exQ : List (Int × Int × Int × Int) := [(0, 0, 1, 3), (1, 0, 0, 1)]
def exL : List (Int × Int × Int × Int) := [(0, 2, 3, 3)]

theorem new4 (w : World) (A B C D : Obj) :
    ((((w.alloc A).alloc B).alloc C).alloc D).heap[w.heap.size]? = some A ∧ ((((w.alloc A).alloc B).alloc C).alloc D).heap[w.heap.size + 1]? = some B ∧
    ((((w.alloc A).alloc B).alloc C).alloc D).heap[w.heap.size + 1 + 1]? = some C ∧ ((((w.alloc A).alloc B).alloc C).alloc D).heap[w.heap.size + 1 + 1 + 1]? = some D := by
  simp only [heap_push, Array.getElem?_push, Array.size_push]
  refine ⟨?_, ?_, ?_, ?_⟩ <;> (repeat (first | rw [if_pos (by first | trivial | omega)] | rw [if_neg (by omega)]))

theorem inl_lit {w : World} {g size n : Nat} {rows : List (List Value)} {e : TypeId} {cs : Array Value} (hb : w.heap[g]? = some (.cells cs e (0, 0))) (hc : cs.toList = rows.flatten) (hn : rows.length = n) (hl : ∀ r ∈ rows, r.length = size) (h1 : ∀ r ∈ rows, ∀ u ∈ r, u.oneCell' = true) (hm : n ≤ maxLen) :
    Inl w size (.slice (some ⟨g, 0, none⟩) n n) rows := by
  subst hn
  refine ⟨hl, h1, some ⟨g, 0, none⟩, rows.length, rfl, hm, .inr ⟨g, 0, rfl, fun j v hv => ?_⟩⟩
  rw [Nat.zero_add, cell_of_row w g j cs e (0, 0) hb, ← hv, ← hc]
  simp

set_option maxRecDepth 100000 in
set_option maxHeartbeats 4000000 in
theorem example_any (w : World) :
    Calls Tryz.prog 7 #[] w fun e w' => ∃ b1 b2 b3, e = .returned (.agg #[.int .i64 2, .slice (some ⟨b1, 0, none⟩) 2 2, .slice (some ⟨b2, 0, none⟩) 2 2, .slice (some ⟨b3, 0, none⟩) 1 1]) ∧
      Inl w' 2 (.slice (some ⟨b1, 0, none⟩) 2 2) (exT.map tRow) ∧ Inl w' 4 (.slice (some ⟨b2, 0, none⟩) 2 2) (exQ.map qRow) ∧ Inl w' 4 (.slice (some ⟨b3, 0, none⟩) 1 1) (exL.map qRow) ∧ Below w.heap.size w w' ∧ w.heap.size ≤ b1 ∧ w.heap.size ≤ b2 ∧ w.heap.size ≤ b3 := by
  go_enter Tryz.func7, Tryz.ntmps7
  go_wp2
  have h4 := new4 w (.cells #[.int .i64 2, .slice (some ⟨w.heap.size + 1, 0, none⟩) 2 2, .slice (some ⟨w.heap.size + 1 + 1, 0, none⟩) 2 2, .slice (some ⟨w.heap.size + 1 + 1 + 1, 0, none⟩) 1 1] 40) (.cells #[.int .i64 0, .int .i64 1, .int .i64 1, .int .i64 1] 65) (.cells #[.int .i64 0, .int .i64 0, .int .i64 1, .int .i64 3, .int .i64 1, .int .i64 0, .int .i64 0, .int .i64 1] 67) (.cells #[.int .i64 0, .int .i64 2, .int .i64 3, .int .i64 3] 69)
  refine bodyPost_ret (v := .agg #[.int .i64 2, .slice (some ⟨w.heap.size + 1, 0, none⟩) 2 2, .slice (some ⟨w.heap.size + 1 + 1, 0, none⟩) 2 2, .slice (some ⟨w.heap.size + 1 + 1 + 1, 0, none⟩) 1 1]) (results_cell_row Tryz.results7 _ _ w.heap.size 40 _ (0, 0) _ rfl h4.1 Tryz.underlying40 rfl (by kernel_rfl)) rfl ⟨_, _, _, rfl, inl_lit h4.2.1 rfl rfl ?_ ?_ (by decide), inl_lit h4.2.2.1 rfl rfl ?_ ?_ (by decide), inl_lit h4.2.2.2 rfl rfl ?_ ?_ (by decide), ?_, by omega, by omega, by omega⟩
  all_goals try (intro r hr; simp [exT, exQ, exL, tRow, qRow] at hr; rcases hr with rfl | rfl <;> first | rfl | (intro u hu; simp at hu; rcases hu with rfl | rfl | rfl | rfl <;> rfl) | (intro u hu; simp at hu; rcases hu with rfl | rfl <;> rfl) | (intro u hu; simp at hu; subst hu; rfl) | (intro u hu; simp at hu; rcases hu with rfl | rfl | rfl <;> rfl))
  all_goals try (intro r hr; simp [exT, exQ, exL, tRow, qRow] at hr; subst hr; first | rfl | (intro u hu; simp at hu; rcases hu with rfl | rfl | rfl <;> rfl))
  exact ((((Below.refl _ w).alloc (Nat.le_refl _) _).alloc (by simp) _).alloc (by simp; omega) _).alloc (by simp; omega) _
end Go.Proofs.YtgiiegppaleldaaGreatDoor
