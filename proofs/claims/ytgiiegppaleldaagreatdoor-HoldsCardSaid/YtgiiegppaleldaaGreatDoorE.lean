import Derived.Test.YtgiiegppaleldaaGreatDoorC
namespace Go.Proofs.YtgiiegppaleldaaGreatDoor
open Go.RowKit

/-- The entries of one list of the book: row k has four lists that bear the mark k. -/
def Marks (w : World) (el : TypeId) (M : Int → List Value) (rows : List (List Value)) : Prop :=
  ∀ k, k < rows.length → ∃ v0 v1 v2 v3, rows[k]? = some [v0, v1, v2, v3, .int .i64 k] ∧ Marked w el (M k) v0 ∧ Marked w el (M k) v1 ∧ Marked w el (M k) v2 ∧ Marked w el (M k) v3

theorem Marks.below {w w' : World} {el : TypeId} {M : Int → List Value} {rows : List (List Value)} (h : Marks w el M rows) (hb : Below w.heap.size w w') : Marks w' el M rows := fun k hk => by
  obtain ⟨v0, v1, v2, v3, e, m0, m1, m2, m3⟩ := h k hk
  have F := Fr.of_below hb (fun _ => False)
  exact ⟨v0, v1, v2, v3, e, m0.kept F (fun _ _ h => h), m1.kept F (fun _ _ h => h), m2.kept F (fun _ _ h => h), m3.kept F (fun _ _ h => h)⟩

theorem Sl.row {w : World} {e : TypeId} {size g n cap : Nat} {rows : List (List Value)} (h : Sl w e size (.slice (some ⟨g, 0, none⟩) n cap) rows) {i : Nat} {r : List Value} (hr : rows[i]? = some r) : w.rangeAt g (i * size) r := by
  obtain ⟨hi, e⟩ := List.getElem?_eq_some_iff.1 hr
  rw [← e]; exact h.range i hi

abbrev mk1 (m : Int) : List Value := [.int .i64 (-1000 - m)]

set_option maxRecDepth 100000 in
set_option maxHeartbeats 2000000 in
theorem looks_any (b : Nat) (ps nums pas lea : Value) (nrow prow lrow : List (List Value)) (w : World)
    (hb : w.heap[b]? = some (.cells #[ps, nums, pas, lea] 34 (0, 0))) (hsn : Sl w 83 5 nums nrow) (hs : Sl w 85 5 pas prow) (hsl : Sl w 87 5 lea lrow)
    (bn : nrow.length ≤ 1000000000000) (bp : prow.length ≤ 1000000000000) (bl : lrow.length ≤ 1000000000000)
    (mn : Marks w 2 mk1 nrow) (mp : Marks w 67 (fun m => [.int .i64 0, .int .i64 (-1000 - m), .int .i64 0, .int .i64 0]) prow) (ml : Marks w 69 (fun m => [.int .i64 0, .int .i64 (-1000 - m), .int .i64 0, .int .i64 0]) lrow) :
    Calls Tryz.prog 10 #[.pointer (some ⟨b, 1, none⟩)] w fun e w' => e = .returned (.bool true) ∧ Below w.heap.size w w' := by
  obtain ⟨an, cn, rfl⟩ := hsn.slice
  obtain ⟨ap, cp, rfl⟩ := hs.slice
  obtain ⟨al, cl, rfl⟩ := hsl.slice
  have hbl : b < w.heap.size := (Array.getElem?_eq_some_iff.1 hb).1
  have HB := hid hb
  clear hb
  have H := hid (And.intro hsn (And.intro hs (And.intro hsl (And.intro mn (And.intro mp ml)))))
  clear hsn hs hsl mn mp ml
  have cb : ∀ (w' : World), Below w.heap.size w w' → w'.cell? ⟨b, 1, none⟩ = some (.slice an nrow.length cn) ∧ w'.cell? ⟨b, 2, none⟩ = some (.slice ap prow.length cp) ∧ w'.cell? ⟨b, 3, none⟩ = some (.slice al lrow.length cl) := fun _ hw =>
    ⟨(hw.cell (p := ⟨b, 1, none⟩) hbl).trans ((cell_of_row w b 1 _ _ _ HB.out).trans rfl), (hw.cell (p := ⟨b, 2, none⟩) hbl).trans ((cell_of_row w b 2 _ _ _ HB.out).trans rfl), (hw.cell (p := ⟨b, 3, none⟩) hbl).trans ((cell_of_row w b 3 _ _ _ HB.out).trans rfl)⟩
  have CB := hid cb
  clear cb
  go_enter Tryz.func10, Tryz.ntmps10
  go_wp2
  go_loopw [3, 4] (fun ok i w' => ∃ k : Nat, k ≤ nrow.length ∧ ok = .bool true ∧ i = .int .i64 k ∧ Below w.heap.size w w') (fun _ i _ => nrow.length - (intOf i).toNat)
  case atStart => exact ⟨0, Nat.zero_le _, rfl, rfl, Below.refl _ _⟩
  case round =>
    obtain ⟨k, hk, rfl, rfl, hw⟩ := hrel
    obtain ⟨hc1, hc2, hc3⟩ := CB.out _ hw
    have HW := hid hw
    by_cases hlt : k < nrow.length
    · obtain ⟨v0, v1, v2, v3, er, m0, m1, m2, m3⟩ := (H.out.2.2.2.1) k hlt
      obtain ⟨g, rfl, _⟩ := H.out.1.is_some (by omega)
      have F : Fr (fun _ => False) w wr := ⟨hw.os, hw.tape, hw.output, hw.size, fun q hq _ => hw.block q hq⟩
      have hr := hid ((H.out.1.kept F (fun _ _ h => h)).row er)
      have MM := hid (And.intro (m0.kept F (fun _ _ h => h)) (And.intro (m1.kept F (fun _ _ h => h)) (And.intro (m2.kept F (fun _ _ h => h)) (m3.kept F (fun _ _ h => h)))))
      clear m0 m1 m2 m3 F er hw
      go_wp2_with (first
        | (with_reducible (show wpList _ _ _ (⟨_, .load 83 _, _, _, _, none⟩ :: _) _ _); go_must (refine wpList_load_mid rfl 83 _ rfl g (k * 5) rfl _ _ hr.out Tryz.underlying83 rfl (by kernel_rfl) ?_))
        | (go_at_call 36; refine (stillNumbers_any v0 v1 v2 v3 k _ (by omega) (by omega) MM.out.1 MM.out.2.1 MM.out.2.2.1 MM.out.2.2.2).mono ?_; rintro e w2 ⟨rfl, hw2⟩; have HW2 := hid (HW.out.trans (hw2.mono HW.out.size)); clear hw2))
      exact ⟨⟨k + 1, by omega, rfl, by go_num, HW2.out⟩, by simp [intOf]; omega⟩
    · clear hw
      go_wp2
      go_loopw [3, 6] (fun ok i w' => ∃ k : Nat, k ≤ prow.length ∧ ok = .bool true ∧ i = .int .i64 k ∧ Below w.heap.size w w') (fun _ i _ => prow.length - (intOf i).toNat)
      case atStart => exact ⟨0, Nat.zero_le _, rfl, rfl, HW.out⟩
      clear hk hlt hc1 hc2 hc3 HW
      case round =>
        obtain ⟨k, hk, rfl, rfl, hw⟩ := hrel
        obtain ⟨hc1, hc2, hc3⟩ := CB.out _ hw
        have HW := hid hw
        by_cases hlt : k < prow.length
        · obtain ⟨v0, v1, v2, v3, er, m0, m1, m2, m3⟩ := (H.out.2.2.2.2.1) k hlt
          obtain ⟨g, rfl, _⟩ := H.out.2.1.is_some (by omega)
          have F : Fr (fun _ => False) w wr := ⟨hw.os, hw.tape, hw.output, hw.size, fun q hq _ => hw.block q hq⟩
          have hr := hid ((H.out.2.1.kept F (fun _ _ h => h)).row er)
          have MM := hid (And.intro (m0.kept F (fun _ _ h => h)) (And.intro (m1.kept F (fun _ _ h => h)) (And.intro (m2.kept F (fun _ _ h => h)) (m3.kept F (fun _ _ h => h)))))
          clear m0 m1 m2 m3 F er hw
          go_wp2_with (first
            | (with_reducible (show wpList _ _ _ (⟨_, .load 85 _, _, _, _, none⟩ :: _) _ _); go_must (refine wpList_load_mid rfl 85 _ rfl g (k * 5) rfl _ _ hr.out Tryz.underlying85 rfl (by kernel_rfl) ?_))
            | (go_at_call 37; refine (stillPasses_any v0 v1 v2 v3 k _ (by omega) (by omega) MM.out.1 MM.out.2.1 MM.out.2.2.1 MM.out.2.2.2).mono ?_; rintro e w2 ⟨rfl, hw2⟩; have HW2 := hid (HW.out.trans (hw2.mono HW.out.size)); clear hw2))
          exact ⟨⟨k + 1, by omega, rfl, by go_num, HW2.out⟩, by simp [intOf]; omega⟩
        · clear hw
          go_wp2
          go_loopw [3, 8] (fun ok i w' => ∃ k : Nat, k ≤ lrow.length ∧ ok = .bool true ∧ i = .int .i64 k ∧ Below w.heap.size w w') (fun _ i _ => lrow.length - (intOf i).toNat)
          case atStart => exact ⟨0, Nat.zero_le _, rfl, rfl, HW.out⟩
          clear hk hlt hc1 hc2 hc3 HW
          case round =>
            obtain ⟨k, hk, rfl, rfl, hw⟩ := hrel
            obtain ⟨hc1, hc2, hc3⟩ := CB.out _ hw
            have HW := hid hw
            by_cases hlt : k < lrow.length
            · obtain ⟨v0, v1, v2, v3, er, m0, m1, m2, m3⟩ := (H.out.2.2.2.2.2) k hlt
              obtain ⟨g, rfl, _⟩ := H.out.2.2.1.is_some (by omega)
              have F : Fr (fun _ => False) w wr := ⟨hw.os, hw.tape, hw.output, hw.size, fun q hq _ => hw.block q hq⟩
              have hr := hid ((H.out.2.2.1.kept F (fun _ _ h => h)).row er)
              have MM := hid (And.intro (m0.kept F (fun _ _ h => h)) (And.intro (m1.kept F (fun _ _ h => h)) (And.intro (m2.kept F (fun _ _ h => h)) (m3.kept F (fun _ _ h => h)))))
              clear m0 m1 m2 m3 F er hw
              go_wp2_with (first
                | (with_reducible (show wpList _ _ _ (⟨_, .load 87 _, _, _, _, none⟩ :: _) _ _); go_must (refine wpList_load_mid rfl 87 _ rfl g (k * 5) rfl _ _ hr.out Tryz.underlying87 rfl (by kernel_rfl) ?_))
                | (go_at_call 38; refine (stillLeaves_any v0 v1 v2 v3 k _ (by omega) (by omega) MM.out.1 MM.out.2.1 MM.out.2.2.1 MM.out.2.2.2).mono ?_; rintro e w2 ⟨rfl, hw2⟩; have HW2 := hid (HW.out.trans (hw2.mono HW.out.size)); clear hw2))
              exact ⟨⟨k + 1, by omega, rfl, by go_num, HW2.out⟩, by simp [intOf]; omega⟩
            · clear hw
              go_wp2
              go_ret
              exact ⟨rfl, HW.out⟩
end Go.Proofs.YtgiiegppaleldaaGreatDoor
