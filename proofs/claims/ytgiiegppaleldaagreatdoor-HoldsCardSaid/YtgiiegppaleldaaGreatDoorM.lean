import Derived.Test.YtgiiegppaleldaaGreatDoorK
import Derived.Deep.QuietTactic
import Derived.BigQuiet
namespace Go.Proofs.YtgiiegppaleldaaGreatDoor
open Go.RowKit

/-- Who is current among the first k: the highest row, there the least order; -1. -/
def curTo (ts : List (Int × Int × Int × Int)) : Nat → Int
  | 0 => -1
  | k + 1 =>
    match ts[k]?, ts[(curTo ts k).toNat]? with
    | some t, some u => if curTo ts k < 0 ∨ u.2.1 < t.2.1 ∨ (t.2.1 = u.2.1 ∧ t.2.2.1 < u.2.2.1) then k else curTo ts k
    | _, _ => curTo ts k

theorem curTo_inv (ts : List (Int × Int × Int × Int)) : ∀ k, k ≤ ts.length → (k = 0 ∧ curTo ts k = -1) ∨ ∃ (j : Nat) (u : Int × Int × Int × Int), curTo ts k = j ∧ j < k ∧ ts[j]? = some u
  | 0, _ => .inl ⟨rfl, rfl⟩
  | k + 1, h => by
    obtain ⟨t, ht⟩ : ∃ t, ts[k]? = some t := ⟨_, List.getElem?_eq_getElem h⟩
    right
    rcases curTo_inv ts k (by omega) with ⟨rfl, e⟩ | ⟨j, u, e, hj, hu⟩
    · refine ⟨0, t, ?_, by omega, ht⟩
      simp [curTo, ht]
    · have e2 : (curTo ts k).toNat = j := by rw [e]; simp
      by_cases hc : u.2.1 < t.2.1 ∨ (t.2.1 = u.2.1 ∧ t.2.2.1 < u.2.2.1)
      · refine ⟨k, t, ?_, by omega, ht⟩
        simp only [curTo, ht, e2, hu]
        rw [if_pos (.inr hc)]
      · refine ⟨j, u, ?_, by omega, hu⟩
        simp only [curTo, ht, e2, hu]
        rw [if_neg (by rw [e]; omega), e]

theorem cur_first {ts : List (Int × Int × Int × Int)} {t : Int × Int × Int × Int} {k : Nat} (h : ts[k]? = some t) (hk : k = 0) : curTo ts (k + 1) = k := by subst hk; simp [curTo, h]
theorem cur_new {ts : List (Int × Int × Int × Int)} {k j : Nat} {t u : Int × Int × Int × Int} (ht : ts[k]? = some t) (e : curTo ts k = j) (hu : ts[j]? = some u) (h : u.2.1 < t.2.1 ∨ (t.2.1 = u.2.1 ∧ t.2.2.1 < u.2.2.1)) : curTo ts (k + 1) = k := by
  have e2 : (curTo ts k).toNat = j := by rw [e]; simp
  simp only [curTo, ht, e2, hu]
  rw [if_pos (.inr h)]
theorem cur_old {ts : List (Int × Int × Int × Int)} {k j : Nat} {t u : Int × Int × Int × Int} (ht : ts[k]? = some t) (e : curTo ts k = j) (hu : ts[j]? = some u) (h : ¬ (u.2.1 < t.2.1 ∨ (t.2.1 = u.2.1 ∧ t.2.2.1 < u.2.2.1))) : curTo ts (k + 1) = j := by
  have e2 : (curTo ts k).toNat = j := by rw [e]; simp
  simp only [curTo, ht, e2, hu]
  rw [if_neg (by rw [e]; omega), e]
theorem val_int {a b : Int} (h : a = b) : Value.int .i64 a = .int .i64 b := by rw [h]

set_option maxRecDepth 100000 in
set_option maxHeartbeats 8000000 in
theorem refCurrent_any (y : Nat) (K : RK) (vt vp vl : Value) (w : World) (h : RefAt w y K vt vp vl) (hb : K.threads.length ≤ 6) :
    Calls Tryz.prog 16 #[.pointer (some ⟨y, 0, none⟩)] w fun e w' => e = .returned (.int .i64 (curTo K.threads K.threads.length)) ∧ Below w.heap.size w w' := by
  have hs := h.th
  have hc : w.cell? ⟨y, 0, none⟩ = some vt := (cell_of_row w y 0 _ _ _ h.blk).trans rfl
  have ly : y < w.heap.size := (Array.getElem?_eq_some_iff.1 h.blk).1
  obtain ⟨a, c, ev⟩ := hs.slice
  rw [List.length_map] at ev
  subst ev
  obtain ⟨m, hn'⟩ : ∃ m, K.threads.length = m := ⟨_, rfl⟩
  rw [hn'] at hc hs hb ⊢
  generalize K.threads = ts at hs hn' ⊢
  have HS := hid hs
  have HN := hid hn'
  have HC := hid hc
  clear hs h hn' hc
  go_enter Tryz.func16, Tryz.ntmps16
  go_wp2
  go_loopw [3, 4] (fun c i wr => ∃ k : Nat, k ≤ m ∧ i = .int .i64 k ∧ c = .int .i64 (curTo ts k) ∧ Below w.heap.size w wr) (fun _ i _ => m - (intOf i).toNat)
  case atStart => exact ⟨0, Nat.zero_le _, rfl, rfl, Below.refl _ _⟩
  case round =>
    obtain ⟨k, hk, rfl, ec, hw⟩ := hrel
    have c0 : wr.cell? ⟨y, 0, none⟩ = some (.slice a m c) := (hw.cell (p := ⟨y, 0, none⟩) ly).trans HC.out
    have lw := Nat.lt_of_lt_of_le ly hw.size
    have HW := hid hw
    by_cases hlt : k < m
    · obtain ⟨t, ht⟩ : ∃ t, ts[k]? = some t := ⟨_, List.getElem?_eq_getElem (by have := HN.out; omega)⟩
      obtain ⟨g, ea, hx⟩ := HS.out.is_some (by omega)
      clear hx
      subst ea
      have R1 := hid ((HS.out.below hw).row (i := k) (r := [.int .i64 t.1, .int .i64 t.2.1, .int .i64 1, .int .i64 t.2.2.1, .int .i64 t.2.2.2, .int .i64 0, .slice none 0 0, .int .i64 0, .int .i64 0, .int .i64 0, .int .i64 0, .int .i64 0, .bool false, .int .i64 0, .int .i64 0, .int .i64 (-1), .int .i64 0, .int .i64 (-1), .slice none 0 0, .int .i64 (-1)]) (by rw [List.getElem?_map, ht]; rfl))
      have lg : g < wr.heap.size := Nat.lt_of_lt_of_le (HS.out.lt rfl) hw.size
      have HT := hid ht
      rcases curTo_inv ts k (by have := HN.out; omega) with ⟨ek, e⟩ | ⟨j, u, e, hj, hu⟩
      · rw [e] at ec
        subst ec
        have EK := hid ek
        clear hw ht e ek
        skip
        go_wp2_with (first | (with_reducible (show wpList _ _ _ (⟨_, .load 116 _, _, _, _, none⟩ :: _) _ _); go_must (refine wpList_load_mid rfl 116 _ rfl g (k * 20) rfl _ _ R1.out Tryz.underlying116 rfl (by kernel_rfl) ?_)) | (with_reducible (show wpList _ _ _ (⟨_, .store 116 _ _, _, _, _, none⟩ :: _) _ _); go_must (refine wpList_store_new rfl 116 _ _ rfl wr _ #[.int .i64 t.1, .int .i64 t.2.1, .int .i64 1, .int .i64 t.2.2.1, .int .i64 t.2.2.2, .int .i64 0, .slice none 0 0, .int .i64 0, .int .i64 0, .int .i64 0, .int .i64 0, .int .i64 0, .bool false, .int .i64 0, .int .i64 0, .int .i64 (-1), .int .i64 0, .int .i64 (-1), .slice none 0 0, .int .i64 (-1)] 116 rfl rfl (by kernel_rfl) rfl ?_ ?_); (simp [Value.oneCell'])))
        go_quiet (fail)
        go_wp2
        first
          | exact ⟨⟨k + 1, by omega, by go_num, val_int (cur_first HT.out EK.out).symm, below_drewN (HW.out.alloc HW.out.size _) _⟩, by simp [intOf]; omega⟩
          | (go_roundw
             case rel => first | exact ⟨k + 1, by omega, by go_num, val_int (cur_first HT.out EK.out).symm, below_drewN (HW.out.alloc HW.out.size _) _⟩ | ((repeat apply Exists.intro); exact ⟨⟨k + 1, by omega, by go_num, val_int (cur_first HT.out EK.out).symm, below_drewN (HW.out.alloc HW.out.size _) _⟩, rfl⟩)
             case measure => simp [intOf]; omega)
      · rw [e] at ec
        subst ec
        have r2 := (HS.out.below hw).row (i := j) (r := [.int .i64 u.1, .int .i64 u.2.1, .int .i64 1, .int .i64 u.2.2.1, .int .i64 u.2.2.2, .int .i64 0, .slice none 0 0, .int .i64 0, .int .i64 0, .int .i64 0, .int .i64 0, .int .i64 0, .bool false, .int .i64 0, .int .i64 0, .int .i64 (-1), .int .i64 0, .int .i64 (-1), .slice none 0 0, .int .i64 (-1)]) (by rw [List.getElem?_map, hu]; rfl)
        have u1 : wr.cell? ⟨g, j * 20 + 1, none⟩ = some (.int .i64 u.2.1) := r2 1 _ rfl
        have u3 : wr.cell? ⟨g, j * 20 + 3, none⟩ = some (.int .i64 u.2.2.1) := r2 3 _ rfl
        have HU := hid (And.intro e hu)
        have jm : j < m := by omega
        have jm' : (j : Int) < (m : Int) := by omega
        have dn : decide ((j : Int) < 0) = false := by simp
        clear hw ht e hu r2
        by_cases q0 : u.2.1 < t.2.1
        · have d0 : decide (u.2.1 < t.2.1) = true := by simpa using q0
          skip
          go_wp2_with (first | (with_reducible (show wpList _ _ _ (⟨_, .load 116 _, _, _, _, none⟩ :: _) _ _); go_must (refine wpList_load_mid rfl 116 _ rfl g (k * 20) rfl _ _ R1.out Tryz.underlying116 rfl (by kernel_rfl) ?_)) | (with_reducible (show wpList _ _ _ (⟨_, .store 116 _ _, _, _, _, none⟩ :: _) _ _); go_must (refine wpList_store_new rfl 116 _ _ rfl wr _ #[.int .i64 t.1, .int .i64 t.2.1, .int .i64 1, .int .i64 t.2.2.1, .int .i64 t.2.2.2, .int .i64 0, .slice none 0 0, .int .i64 0, .int .i64 0, .int .i64 0, .int .i64 0, .int .i64 0, .bool false, .int .i64 0, .int .i64 0, .int .i64 (-1), .int .i64 0, .int .i64 (-1), .slice none 0 0, .int .i64 (-1)] 116 rfl rfl (by kernel_rfl) rfl ?_ ?_); (simp [Value.oneCell'])))
          go_quiet (fail)
          go_wp2
          first
            | exact ⟨⟨k + 1, by omega, by go_num, val_int (cur_new HT.out HU.out.1 HU.out.2 (.inl q0)).symm, below_drewN (HW.out.alloc HW.out.size _) _⟩, by simp [intOf]; omega⟩
            | (go_roundw
               case rel => first | exact ⟨k + 1, by omega, by go_num, val_int (cur_new HT.out HU.out.1 HU.out.2 (.inl q0)).symm, below_drewN (HW.out.alloc HW.out.size _) _⟩ | ((repeat apply Exists.intro); exact ⟨⟨k + 1, by omega, by go_num, val_int (cur_new HT.out HU.out.1 HU.out.2 (.inl q0)).symm, below_drewN (HW.out.alloc HW.out.size _) _⟩, rfl⟩)
               case measure => simp [intOf]; omega)
        · have d0 : decide (u.2.1 < t.2.1) = false := by simpa using q0
          by_cases q1 : t.2.1 = u.2.1
          · have d1 : (t.2.1 == u.2.1) = true := by simp [q1]
            have Q1 := hid q1
            clear q1
            by_cases q2 : t.2.2.1 < u.2.2.1
            · have d2 : decide (t.2.2.1 < u.2.2.1) = true := by simpa using q2
              skip
              go_wp2_with (first | (with_reducible (show wpList _ _ _ (⟨_, .load 116 _, _, _, _, none⟩ :: _) _ _); go_must (refine wpList_load_mid rfl 116 _ rfl g (k * 20) rfl _ _ R1.out Tryz.underlying116 rfl (by kernel_rfl) ?_)) | (with_reducible (show wpList _ _ _ (⟨_, .store 116 _ _, _, _, _, none⟩ :: _) _ _); go_must (refine wpList_store_new rfl 116 _ _ rfl wr _ #[.int .i64 t.1, .int .i64 t.2.1, .int .i64 1, .int .i64 t.2.2.1, .int .i64 t.2.2.2, .int .i64 0, .slice none 0 0, .int .i64 0, .int .i64 0, .int .i64 0, .int .i64 0, .int .i64 0, .bool false, .int .i64 0, .int .i64 0, .int .i64 (-1), .int .i64 0, .int .i64 (-1), .slice none 0 0, .int .i64 (-1)] 116 rfl rfl (by kernel_rfl) rfl ?_ ?_); (simp [Value.oneCell'])))
              go_quiet (fail)
              go_wp2
              first
                | exact ⟨⟨k + 1, by omega, by go_num, val_int (cur_new HT.out HU.out.1 HU.out.2 (.inr ⟨Q1.out, q2⟩)).symm, below_drewN (HW.out.alloc HW.out.size _) _⟩, by simp [intOf]; omega⟩
                | (go_roundw
                   case rel => first | exact ⟨k + 1, by omega, by go_num, val_int (cur_new HT.out HU.out.1 HU.out.2 (.inr ⟨Q1.out, q2⟩)).symm, below_drewN (HW.out.alloc HW.out.size _) _⟩ | ((repeat apply Exists.intro); exact ⟨⟨k + 1, by omega, by go_num, val_int (cur_new HT.out HU.out.1 HU.out.2 (.inr ⟨Q1.out, q2⟩)).symm, below_drewN (HW.out.alloc HW.out.size _) _⟩, rfl⟩)
                   case measure => simp [intOf]; omega)
            · have d2 : decide (t.2.2.1 < u.2.2.1) = false := by simpa using q2
              skip
              go_wp2_with (first | (with_reducible (show wpList _ _ _ (⟨_, .load 116 _, _, _, _, none⟩ :: _) _ _); go_must (refine wpList_load_mid rfl 116 _ rfl g (k * 20) rfl _ _ R1.out Tryz.underlying116 rfl (by kernel_rfl) ?_)) | (with_reducible (show wpList _ _ _ (⟨_, .store 116 _ _, _, _, _, none⟩ :: _) _ _); go_must (refine wpList_store_new rfl 116 _ _ rfl wr _ #[.int .i64 t.1, .int .i64 t.2.1, .int .i64 1, .int .i64 t.2.2.1, .int .i64 t.2.2.2, .int .i64 0, .slice none 0 0, .int .i64 0, .int .i64 0, .int .i64 0, .int .i64 0, .int .i64 0, .bool false, .int .i64 0, .int .i64 0, .int .i64 (-1), .int .i64 0, .int .i64 (-1), .slice none 0 0, .int .i64 (-1)] 116 rfl rfl (by kernel_rfl) rfl ?_ ?_); (simp [Value.oneCell'])))
              go_quiet (fail)
              go_wp2
              first
                | exact ⟨⟨k + 1, by omega, by go_num, val_int (cur_old HT.out HU.out.1 HU.out.2 (by have := Q1.out; omega)).symm, below_drewN (HW.out.alloc HW.out.size _) _⟩, by simp [intOf]; omega⟩
                | (go_roundw
                   case rel => first | exact ⟨k + 1, by omega, by go_num, val_int (cur_old HT.out HU.out.1 HU.out.2 (by have := Q1.out; omega)).symm, below_drewN (HW.out.alloc HW.out.size _) _⟩ | ((repeat apply Exists.intro); exact ⟨⟨k + 1, by omega, by go_num, val_int (cur_old HT.out HU.out.1 HU.out.2 (by have := Q1.out; omega)).symm, below_drewN (HW.out.alloc HW.out.size _) _⟩, rfl⟩)
                   case measure => simp [intOf]; omega)
          · have d1 : (t.2.1 == u.2.1) = false := by simp [q1]
            skip
            go_wp2_with (first | (with_reducible (show wpList _ _ _ (⟨_, .load 116 _, _, _, _, none⟩ :: _) _ _); go_must (refine wpList_load_mid rfl 116 _ rfl g (k * 20) rfl _ _ R1.out Tryz.underlying116 rfl (by kernel_rfl) ?_)) | (with_reducible (show wpList _ _ _ (⟨_, .store 116 _ _, _, _, _, none⟩ :: _) _ _); go_must (refine wpList_store_new rfl 116 _ _ rfl wr _ #[.int .i64 t.1, .int .i64 t.2.1, .int .i64 1, .int .i64 t.2.2.1, .int .i64 t.2.2.2, .int .i64 0, .slice none 0 0, .int .i64 0, .int .i64 0, .int .i64 0, .int .i64 0, .int .i64 0, .bool false, .int .i64 0, .int .i64 0, .int .i64 (-1), .int .i64 0, .int .i64 (-1), .slice none 0 0, .int .i64 (-1)] 116 rfl rfl (by kernel_rfl) rfl ?_ ?_); (simp [Value.oneCell'])))
            go_quiet (fail)
            go_wp2
            first
              | exact ⟨⟨k + 1, by omega, by go_num, val_int (cur_old HT.out HU.out.1 HU.out.2 (by omega)).symm, below_drewN (HW.out.alloc HW.out.size _) _⟩, by simp [intOf]; omega⟩
              | (go_roundw
                 case rel => first | exact ⟨k + 1, by omega, by go_num, val_int (cur_old HT.out HU.out.1 HU.out.2 (by omega)).symm, below_drewN (HW.out.alloc HW.out.size _) _⟩ | ((repeat apply Exists.intro); exact ⟨⟨k + 1, by omega, by go_num, val_int (cur_old HT.out HU.out.1 HU.out.2 (by omega)).symm, below_drewN (HW.out.alloc HW.out.size _) _⟩, rfl⟩)
                 case measure => simp [intOf]; omega)
    · subst ec
      have ek : k = m := by omega
      subst ek
      go_wp2
      go_ret
      exact ⟨rfl, HW.out⟩
end Go.Proofs.YtgiiegppaleldaaGreatDoor
