import Derived.Test.YtgiiegppaleldaaGreatDoorB
import Derived.Test.YtgiiegppaleldaaGreatDoorL1
namespace Go.Proofs.YtgiiegppaleldaaGreatDoor
open Go.RowKit

theorem Tryz.infoN83 : (Tryz.prog.info? 83).map (fun i => (i.zero, i.size, i.bytes)) = some (some (.agg #[.slice none 0 0, .slice none 0 0, .slice none 0 0, .slice none 0 0, .int .i64 0]), 5, 104) := by kernel_rfl

theorem marked_slice {w : World} {e : TypeId} {P : List Value} {v : Value} (h : Marked w e P v) : ∃ n a c, v = .slice a n c := by
  obtain ⟨n, h⟩ := h
  obtain ⟨a, c, rfl⟩ := owns_slice h
  exact ⟨n, a, c, rfl⟩

set_option maxRecDepth 100000 in
set_option maxHeartbeats 1000000 in
theorem number_any (b : Nat) (ps nums pas lea v : Value) (rows : List (List Value)) (n : Nat) (xs : List Value) (w : World)
    (hb : w.heap[b]? = some (.cells #[ps, nums, pas, lea] 34 (0, 0))) (hs : Sl w 83 5 nums rows) (hr : rows.length ≤ 1000000000000)
    (hown : w.ownsRow 0 2 1 v n xs) (hn : n ≤ 1000000) (d1 : nums.ownBlock ≠ some b) (d2 : v.ownBlock ≠ some b) (d3 : ∀ k, v.ownBlock = some k → nums.ownBlock ≠ some k) :
    Calls Tryz.prog 69 #[.pointer (some ⟨b, 1, none⟩), v] w fun e w' => e = .returned (.tuple #[]) ∧ ∃ nums' v1 v2 v3,
      w'.heap[b]? = some (.cells #[ps, nums', pas, lea] 34 (0, 0)) ∧ Sl w' 83 5 nums' (rows ++ [[v, v1, v2, v3, .int .i64 rows.length]]) ∧
      Marked w' 2 [.int .i64 (-1000 - rows.length)] v ∧ Marked w' 2 [.int .i64 (-1000 - rows.length)] v1 ∧ Marked w' 2 [.int .i64 (-1000 - rows.length)] v2 ∧ Marked w' 2 [.int .i64 (-1000 - rows.length)] v3 ∧
      Fr (fun k => k = b ∨ v.ownBlock = some k ∨ nums.ownBlock = some k) w w' ∧ (∀ k, nums'.ownBlock = some k → w.heap.size ≤ k ∨ nums.ownBlock = some k) ∧
      (∀ k, (v1.ownBlock = some k ∨ v2.ownBlock = some k ∨ v3.ownBlock = some k) → (w.heap.size ≤ k ∨ v.ownBlock = some k) ∧ nums'.ownBlock ≠ some k) := by
  obtain ⟨an, cn, rfl⟩ := hs.slice
  obtain ⟨av, cv, rfl⟩ := owns_slice hown
  have hbl : b < w.heap.size := (Array.getElem?_eq_some_iff.1 hb).1
  have hc1 : w.cell? ⟨b, 1, none⟩ = some (.slice an rows.length cn) := by rw [cell_of_row w b 1 _ _ _ hb]; rfl
  have HB := hid hb
  have HS := hid hs
  have HD1 := hid d1
  have HD2 := hid d2
  have HD3 := hid d3
  clear d1 d2 d3 hs hb
  obtain ⟨i0, hi, hz0, hz1, hz2⟩ := info_parts Tryz.infoN83
  go_enter Tryz.func69, Tryz.ntmps69
  go_wp2_with fail
  refine (ownNumbers_any (.slice av n cv) n xs rows.length _ (by omega) (by omega) hown hn).mono ?_
  rintro e w1 ⟨v1, v2, v3, rfl, M0, M1, M2, M3, F1, N1⟩
  obtain ⟨n1, a1, c1, rfl⟩ := marked_slice M1
  obtain ⟨n2, a2, c2, rfl⟩ := marked_slice M2
  obtain ⟨n3, a3, c3, rfl⟩ := marked_slice M3
  have hb1 : w1.heap[b]? = some (.cells #[ps, .slice an rows.length cn, pas, lea] 34 (0, 0)) := by rw [F1.block b hbl HD2.out]; exact HB.out
  have hc2 : w1.cell? ⟨b, 1, none⟩ = some (.slice an rows.length cn) := by rw [cell_of_row w1 b 1 _ _ _ hb1]; rfl
  have hs1 := hid (HS.out.kept F1 (fun k hk hv => HD3.out k hv hk))
  have hbl1 : b < w1.heap.size := Nat.lt_of_lt_of_le hbl F1.size
  have HB1 := hid hb1
  have HM := hid (And.intro M0 (And.intro M1 (And.intro M2 (And.intro M3 (And.intro F1 N1)))))
  clear M0 M1 M2 M3 F1 N1 hb1
  go_wp2_with fail
  go_region_law (refine step_append_sl _ rfl (.tmp 16) (.tmp 18) 28 rfl 83 i0 _ 5 104 Tryz.underlying28 hi hz0 hz1 hz2 rfl (by decide) (.slice an rows.length cn) rows (by simp [Act.eval]) (((hs1.out.alloc _).alloc _).drew) ⟨w1.heap.size + 1, 0, none⟩ 1 1 [[.slice av n cv, .slice a1 n1 c1, .slice a2 n2 c2, .slice a3 n3 c3, .int .i64 rows.length]] (by simp [Act.eval]) rfl (by decide) (by simp) (fun j u h => cell_news2 w1 _ #[.slice av n cv, .slice a1 n1 c1, .slice a2 n2 c2, .slice a3 n3 c3, .int .i64 rows.length] 83 j u (by simpa using h)) (fun u hu => by simp at hu; rcases hu with rfl | rfl | rfl | rfl | rfl <;> rfl) (by unfold maxLen; omega) (by omega) ?_; intro a4 c4 w4 G4; have hb4 : Hid (w4.heap[b]? = some (.cells #[ps, .slice an rows.length cn, pas, lea] 34 (0, 0))) := (G4.old (by simp; omega) HD1.out).trans ((((((Fr.refl (fun _ => False) w1).alloc _).alloc _).drew).block b hbl1 id).trans HB1.out); have hc4 : w4.cell? ⟨b, 1, none⟩ = some (.slice an rows.length cn) := (cell_of_row w4 b 1 _ _ _ hb4.out).trans rfl; have hf4 : w4.frozen? ⟨b, 1, none⟩ = false := frozen_of_row _ _ _ _ _ hb4.out)
  all_goals
    go_wp2
    go_end0
    have HM' := HM.out
    exact ⟨rfl, _, _, _, _, book_end hbl HS.out (fun k hk => (hown.lt k hk).2) HD1.out HD2.out HD3.out HM'.1 HM'.2.1 HM'.2.2.1 HM'.2.2.2.1 HM'.2.2.2.2.1 HM'.2.2.2.2.2 ((((Fr.refl (fun _ => False) w1).alloc _).alloc _).drew) G4 hb4.out⟩
end Go.Proofs.YtgiiegppaleldaaGreatDoor
