import Derived.Test.YtgiiegppaleldaaGreatDoorC
import Derived.Deep.RegionHeld3
import Derived.BigRegion
import Derived.Deep.DeepCutAuto
namespace Go.Proofs.YtgiiegppaleldaaGreatDoor
open Go.RowKit

theorem Tryz.infoN85 : (Tryz.prog.info? 85).map (fun i => (i.zero, i.size, i.bytes)) = some (some (.agg #[.slice none 0 0, .slice none 0 0, .slice none 0 0, .slice none 0 0, .int .i64 0]), 5, 104) := by kernel_rfl
theorem Tryz.infoN87 : (Tryz.prog.info? 87).map (fun i => (i.zero, i.size, i.bytes)) = some (some (.agg #[.slice none 0 0, .slice none 0 0, .slice none 0 0, .slice none 0 0, .int .i64 0]), 5, 104) := by kernel_rfl

/-- The marks of a pass or a leaf. -/
abbrev mk4 (m : Int) : List Value := [.int .i64 0, .int .i64 (-1000 - m), .int .i64 0, .int .i64 0]

/-- What became of one list of the book. -/
structure Booked (st el : TypeId) (M : Int → List Value) (b j : Nat) (cs : Array Value) (old v : Value) (rows : List (List Value)) (w : World) (new v1 v2 v3 : Value) (w' : World) : Prop where
  at_ : w'.heap[b]? = some (.cells (cs.setIfInBounds j new) 34 (0, 0))
  sl : Sl w' st 5 new (rows ++ [[v, v1, v2, v3, .int .i64 rows.length]])
  m0 : Marked w' el (M rows.length) v
  m1 : Marked w' el (M rows.length) v1
  m2 : Marked w' el (M rows.length) v2
  m3 : Marked w' el (M rows.length) v3
  fr : Fr (fun k => k = b ∨ v.ownBlock = some k ∨ old.ownBlock = some k) w w'
  fresh : ∀ k, new.ownBlock = some k → w.heap.size ≤ k ∨ old.ownBlock = some k
  own : ∀ k, (v1.ownBlock = some k ∨ v2.ownBlock = some k ∨ v3.ownBlock = some k) → (w.heap.size ≤ k ∨ v.ownBlock = some k) ∧ new.ownBlock ≠ some k

theorem Booked.of {st el : TypeId} {M : Int → List Value} {b j : Nat} {cs : Array Value} {old v u : Value} {rows : List (List Value)} {w w0 wc X w4 : World} {bx : Nat} {v1 v2 v3 : Value} (hbl : b < w.heap.size) (HS : Sl w st 5 old rows)
    (hv : ∀ k, v.ownBlock = some k → k < w.heap.size) (HD1 : old.ownBlock ≠ some b) (HD2 : v.ownBlock ≠ some b) (HD3 : ∀ k, v.ownBlock = some k → old.ownBlock ≠ some k) (F0 : Fr (fun _ => False) w w0)
    (E : Entry st el (M rows.length) v w0 bx v1 v2 v3 rows.length wc) (FX : Fr (fun _ => False) wc X) (G4 : Grew st 5 old X u (rows ++ [[v, v1, v2, v3, .int .i64 rows.length]]) w4) (hb4 : w4.heap[b]? = some (.cells cs 34 (0, 0))) :
    Booked st el M b j cs old v rows w u v1 v2 v3 (w4.setCell ⟨b, j, none⟩ u) := by
  have h := book_end (j := j) hbl HS hv HD1 HD2 HD3 E.m0 E.m1 E.m2 E.m3 ((F0.mono (fun _ _ h => h.elim)).trans E.fr) (fun k hk => by
    rcases E.own k hk with h | h
    · left; have := F0.size; omega
    · exact .inr h) FX G4 hb4
  exact ⟨h.1, h.2.1, h.2.2.1, h.2.2.2.1, h.2.2.2.2.1, h.2.2.2.2.2.1, h.2.2.2.2.2.2.1, h.2.2.2.2.2.2.2.1, h.2.2.2.2.2.2.2.2⟩

set_option maxRecDepth 100000 in
set_option maxHeartbeats 20000000 in
theorem space_any (b : Nat) (ps nums pas lea v u : Value) (prow lrow : List (List Value)) (n m : Nat) (xs ys : List Value) (w : World)
    (hb : w.heap[b]? = some (.cells #[ps, nums, pas, lea] 34 (0, 0))) (hs : Sl w 85 5 pas prow) (hr : prow.length ≤ 1000000000000) (hsl : Sl w 87 5 lea lrow) (hrl : lrow.length ≤ 1000000000000)
    (hown : w.ownsRow 0 67 4 v n xs) (hn : n ≤ 1000000) (hownu : w.ownsRow 0 69 4 u m ys) (hm : m ≤ 1000000)
    (d1 : pas.ownBlock ≠ some b) (d2 : lea.ownBlock ≠ some b) (d3 : v.ownBlock ≠ some b) (d4 : u.ownBlock ≠ some b)
    (d5 : ∀ k, v.ownBlock = some k → pas.ownBlock ≠ some k ∧ lea.ownBlock ≠ some k ∧ u.ownBlock ≠ some k) (d6 : ∀ k, u.ownBlock = some k → pas.ownBlock ≠ some k ∧ lea.ownBlock ≠ some k) (d7 : ∀ k, pas.ownBlock = some k → lea.ownBlock ≠ some k) :
    Calls Tryz.prog 73 #[.pointer (some ⟨b, 1, none⟩), .agg #[v, u]] w fun e w' => e = .returned (.tuple #[]) ∧ ∃ wm pas' v1 v2 v3 lea' u1 u2 u3,
      Booked 85 67 mk4 b 2 #[ps, nums, pas, lea] pas v prow w pas' v1 v2 v3 wm ∧ Booked 87 69 mk4 b 3 #[ps, nums, pas', lea] lea u lrow wm lea' u1 u2 u3 w' := by
  obtain ⟨an, cn, rfl⟩ := hs.slice
  obtain ⟨al, cl, rfl⟩ := hsl.slice
  obtain ⟨av, cv, rfl⟩ := owns_slice hown
  obtain ⟨au, cu, rfl⟩ := owns_slice hownu
  have hbl : b < w.heap.size := (Array.getElem?_eq_some_iff.1 hb).1
  have hc2 : w.cell? ⟨b, 2, none⟩ = some (.slice an prow.length cn) := by rw [cell_of_row w b 2 _ _ _ hb]; rfl
  have HB := hid hb
  have HS := hid hs
  have HSL := hid hsl
  have HU := hid hownu
  have D := hid (And.intro d1 (And.intro d2 (And.intro d3 (And.intro d4 (And.intro d5 (And.intro d6 d7))))))
  clear hs hb hsl hownu d1 d2 d3 d4 d5 d6 d7
  obtain ⟨i0, hi, hz0, hz1, hz2⟩ := info_parts Tryz.infoN85
  obtain ⟨i1, hj, hy0, hy1, hy2⟩ := info_parts Tryz.infoN87
  go_enter Tryz.func73, Tryz.ntmps73
  go_wp2_with fail
  go_cut [4] (fun t4 wc => ∃ bx v1 v2 v3, t4 = .pointer (some ⟨bx, 0, none⟩) ∧ Entry 85 67 (mk4 prow.length) (.slice av n cv) (w.alloc (.cells #[.slice av n cv, .slice au m cu] 143)) bx v1 v2 v3 prow.length wc)
  case first =>
    have hvl : Hid (∀ k, Value.ownBlock (.slice av n cv) = some k → k < (w.alloc (.cells #[.slice av n cv, .slice au m cu] 143)).heap.size) := fun k hk => ((hown.alloc (.cells #[.slice av n cv, .slice au m cu] 143)).lt k hk).2
    go_region_with (first | (go_at_call 91; refine (ownPasses_any (.slice av n cv) n xs prow.length _ (by omega) (by omega) (owns_drew (hown.alloc (.cells #[.slice av n cv, .slice au m cu] 143))) hn).mono ?_; rintro e w1 ⟨v1, v2, v3, rfl, M0, M1, M2, M3, F1, N1⟩; obtain ⟨n1, a1, c1, rfl⟩ := marked_slice M1; obtain ⟨n2, a2, c2, rfl⟩ := marked_slice M2; obtain ⟨n3, a3, c3, rfl⟩ := marked_slice M3; have H1 := hid (And.intro M0 (And.intro M1 (And.intro M2 (And.intro M3 (And.intro F1 N1))))); clear M0 M1 M2 M3 F1 N1) | (go_at_call 91; refine (ownPasses_any (.slice av n cv) n xs prow.length _ (by omega) (by omega) (owns_drew ((hown.alloc (.cells #[.slice av n cv, .slice au m cu] 143)).alloc _)) hn).mono ?_; rintro e w1 ⟨v1, v2, v3, rfl, M0, M1, M2, M3, F1, N1⟩; obtain ⟨n1, a1, c1, rfl⟩ := marked_slice M1; obtain ⟨n2, a2, c2, rfl⟩ := marked_slice M2; obtain ⟨n3, a3, c3, rfl⟩ := marked_slice M3; have H1 := hid (And.intro M0 (And.intro M1 (And.intro M2 (And.intro M3 (And.intro F1 N1))))); clear M0 M1 M2 M3 F1 N1; obtain ⟨⟨x0, x1, x2, x3, x4⟩, x5⟩ := cells5 (entry_zero H1.out.2.2.2.2.1 hvl.out); rw [size_alloc] at x0 x1 x2 x3 x4 x5))
    all_goals
      go_wp2
      go_meet
      case rel =>
        obtain ⟨M0, M1, M2, M3, F1, N1⟩ := H1.out
        first
          | with_reducible exact ⟨_, _, _, _, rfl, entry_after M0 M1 M2 M3 F1 N1⟩
          | (have E := entry_before (mark := prow.length) hvl.out M0 M1 M2 M3 F1 N1
             rw [size_alloc] at E
             exact ⟨_, _, _, _, rfl, E⟩)
  case rest =>
  obtain ⟨bx, v1, v2, v3, rfl, E1⟩ := hcut
  obtain ⟨n1, a1, c1, rfl⟩ := marked_slice E1.m1
  obtain ⟨n2, a2, c2, rfl⟩ := marked_slice E1.m2
  obtain ⟨n3, a3, c3, rfl⟩ := marked_slice E1.m3
  have hblc : b < wc.heap.size := Nat.lt_of_lt_of_le (by simp; omega) E1.fr.size
  have hbx : Hid (wc.heap[b]? = some (.cells #[ps, nums, .slice an prow.length cn, .slice al lrow.length cl] 34 (0, 0))) := (E1.fr.block b (by simp; omega) D.out.2.2.1).trans ((Below.heap_alloc _ _ _ hbl).trans HB.out)
  have hc2' : wc.cell? ⟨b, 2, none⟩ = some (.slice an prow.length cn) := (cell_of_row wc b 2 _ _ _ hbx.out).trans rfl
  obtain ⟨e0, e1, e2, e3, e4⟩ := E1.cells
  have hsx := hid ((HS.out.alloc (.cells #[.slice av n cv, .slice au m cu] 143)).kept E1.fr (fun k hk hv => (D.out.2.2.2.2.1 k hv).1 hk))
  have HD1 : Hid (Value.ownBlock (.slice an prow.length cn) ≠ some b) := D.out.1
  have hsb : Hid (wc.cell? ⟨w.heap.size, 1, none⟩ = some (.slice au m cu)) := (E1.fr.cell (p := ⟨w.heap.size, 1, none⟩) (by simp) (fun h => by have := (hown.lt _ h).2; simp at this)).trans ((cell_of_row _ _ 1 _ _ _ (heap_alloc_new w _)).trans rfl)
  have HE1 := hid E1
  clear E1
  go_wp2_with fail
  go_cut [] (fun wm => ∃ pas' v1 v2 v3, Booked 85 67 mk4 b 2 #[ps, nums, .slice an prow.length cn, .slice al lrow.length cl] (.slice an prow.length cn) (.slice av n cv) prow w pas' v1 v2 v3 wm ∧ Hid (wm.cell? ⟨w.heap.size, 1, none⟩ = some (.slice au m cu)))
  case first =>
    go_region_law (refine step_append_sl _ rfl (.tmp 18) (.tmp 20) 29 rfl 85 i0 _ 5 104 Tryz.underlying29 hi hz0 hz1 hz2 rfl (by decide) (.slice an prow.length cn) prow (by simp [Act.eval]) (((hsx.out).alloc _).drew) ⟨wc.heap.size, 0, none⟩ 1 1 [[.slice av n cv, .slice a1 n1 c1, .slice a2 n2 c2, .slice a3 n3 c3, .int .i64 prow.length]] (by simp [Act.eval]) rfl (by decide) (by simp) (fun j u h => cell_news wc #[.slice av n cv, .slice a1 n1 c1, .slice a2 n2 c2, .slice a3 n3 c3, .int .i64 prow.length] 85 j u (by simpa using h)) (fun u hu => by simp at hu; rcases hu with rfl | rfl | rfl | rfl | rfl <;> rfl) (by unfold maxLen; omega) (by omega) ?_; intro a4 c4 w4 G4; have hb4 : Hid (w4.heap[b]? = some (.cells #[ps, nums, .slice an prow.length cn, .slice al lrow.length cl] 34 (0, 0))) := (G4.old (by simp; omega) HD1.out).trans (((((Fr.refl (fun _ => False) wc).alloc _).drew).block b hblc id).trans hbx.out); have hc4 : w4.cell? ⟨b, 2, none⟩ = some (.slice an prow.length cn) := (cell_of_row w4 b 2 _ _ _ hb4.out).trans rfl; have hf4 : w4.frozen? ⟨b, 2, none⟩ = false := frozen_of_row _ _ _ _ _ hb4.out)

    all_goals
      go_wp2
      go_meet
      case rel =>
        have hlt : w.heap.size < w4.heap.size := Nat.lt_of_lt_of_le (Nat.lt_of_lt_of_le (by simp) HE1.out.fr.size) (Nat.le_trans (by simp) G4.by_.size)
        refine ⟨_, _, _, _, Booked.of hbl HS.out (fun k hk => (hown.lt k hk).2) D.out.1 D.out.2.2.1 (fun k hk => (D.out.2.2.2.2.1 k hk).1) ((Fr.refl (fun _ => False) w).alloc _) HE1.out (((Fr.refl (fun _ => False) wc).alloc _).drew) G4 hb4.out, ?_⟩
        have hne : w.heap.size ≠ b := by omega
        unfold Hid
        rw [World.cell?_of_block (w := w4) (a := ⟨w.heap.size, 1, none⟩) (Below.heap_setCell _ _ _ _ hne)]
        rw [World.cell?_of_block (w := wc) (a := ⟨w.heap.size, 1, none⟩) (((G4.old (Nat.lt_of_lt_of_le (Nat.lt_of_lt_of_le (by simp) HE1.out.fr.size) (by simp)) (fun h => absurd (HS.out.lt h) (Nat.lt_irrefl _))).trans ((((Fr.refl (fun _ => False) wc).alloc _).drew).block _ (Nat.lt_of_lt_of_le (by simp) HE1.out.fr.size) id)))]
        exact hsb.out
  case rest =>
  obtain ⟨pas', p1, p2, p3, BK, hsc⟩ := hcut
  obtain ⟨ap, cp, rfl⟩ := BK.sl.slice
  clear hsx e0 e1 e2 e3 e4 hc2' hbx HE1 hsb hblc HD1 hc2
  have hbm : Hid (wc.heap[b]? = some (.cells #[ps, nums, .slice ap (prow ++ [[.slice av n cv, p1, p2, p3, .int .i64 prow.length]]).length cp, .slice al lrow.length cl] 34 (0, 0))) := BK.at_
  have hblm : b < wc.heap.size := (Array.getElem?_eq_some_iff.1 hbm.out).1
  have hc3 : wc.cell? ⟨b, 3, none⟩ = some (.slice al lrow.length cl) := (cell_of_row wc b 3 _ _ _ hbm.out).trans rfl
  have hsb := hsc.out
  have hwl : w.heap.size < wc.heap.size := block_lt_of_cell hsb
  have nu : ∀ k, Value.ownBlock (.slice au m cu) = some k → ¬ (k = b ∨ Value.ownBlock (.slice av n cv) = some k ∨ Value.ownBlock (.slice an prow.length cn) = some k) := fun k hk h => by
    rcases h with h | h | h
    · exact D.out.2.2.2.1 (by rw [← h]; exact hk)
    · exact (D.out.2.2.2.2.1 k h).2.2 hk
    · exact (D.out.2.2.2.2.2.1 k hk).1 h
  have nl : ∀ k, Value.ownBlock (.slice al lrow.length cl) = some k → ¬ (k = b ∨ Value.ownBlock (.slice av n cv) = some k ∨ Value.ownBlock (.slice an prow.length cn) = some k) := fun k hk h => by
    rcases h with h | h | h
    · exact D.out.2.1 (by rw [← h]; exact hk)
    · exact (D.out.2.2.2.2.1 k h).2.1 hk
    · exact D.out.2.2.2.2.2.2 k h hk
  have hownm := owns_fr HU.out BK.fr nu
  have hslm := hid (HSL.out.kept BK.fr nl)
  clear nu nl
  generalize hwm : wc = wm at *
  have HWM := hid hwm
  clear hwm
  have HBK := hid BK
  clear BK
  go_wp2_with fail
  go_cut [5] (fun t4 wc => ∃ bx v1 v2 v3, t4 = .pointer (some ⟨bx, 0, none⟩) ∧ Entry 87 69 (mk4 lrow.length) (.slice au m cu) wm bx v1 v2 v3 lrow.length wc)
  case first =>
    have hvl : Hid (∀ k, Value.ownBlock (.slice au m cu) = some k → k < wm.heap.size) := fun k hk => ((hownm).lt k hk).2
    go_region_with (first | (go_at_call 92; refine (ownLeaves_any (.slice au m cu) m ys lrow.length _ (by omega) (by omega) (owns_drew (hownm)) hm).mono ?_; rintro e w1 ⟨v1, v2, v3, rfl, M0, M1, M2, M3, F1, N1⟩; obtain ⟨n1, a1, c1, rfl⟩ := marked_slice M1; obtain ⟨n2, a2, c2, rfl⟩ := marked_slice M2; obtain ⟨n3, a3, c3, rfl⟩ := marked_slice M3; have H1 := hid (And.intro M0 (And.intro M1 (And.intro M2 (And.intro M3 (And.intro F1 N1))))); clear M0 M1 M2 M3 F1 N1) | (go_at_call 92; refine (ownLeaves_any (.slice au m cu) m ys lrow.length _ (by omega) (by omega) (owns_drew ((hownm).alloc _)) hm).mono ?_; rintro e w1 ⟨v1, v2, v3, rfl, M0, M1, M2, M3, F1, N1⟩; obtain ⟨n1, a1, c1, rfl⟩ := marked_slice M1; obtain ⟨n2, a2, c2, rfl⟩ := marked_slice M2; obtain ⟨n3, a3, c3, rfl⟩ := marked_slice M3; have H1 := hid (And.intro M0 (And.intro M1 (And.intro M2 (And.intro M3 (And.intro F1 N1))))); clear M0 M1 M2 M3 F1 N1; obtain ⟨⟨x0, x1, x2, x3, x4⟩, x5⟩ := cells5 (entry_zero H1.out.2.2.2.2.1 hvl.out)))
    all_goals
      go_wp2
      go_meet
      case rel =>
        obtain ⟨M0, M1, M2, M3, F1, N1⟩ := H1.out
        first
          | with_reducible exact ⟨_, _, _, _, rfl, entry_after M0 M1 M2 M3 F1 N1⟩
          | (have E := entry_before (mark := lrow.length) hvl.out M0 M1 M2 M3 F1 N1
             skip
             exact ⟨_, _, _, _, rfl, E⟩)
  case rest =>
  obtain ⟨bx, v1, v2, v3, rfl, E1⟩ := hcut
  obtain ⟨n1, a1, c1, rfl⟩ := marked_slice E1.m1
  obtain ⟨n2, a2, c2, rfl⟩ := marked_slice E1.m2
  obtain ⟨n3, a3, c3, rfl⟩ := marked_slice E1.m3
  have hblc : b < wc.heap.size := Nat.lt_of_lt_of_le hblm E1.fr.size
  have hbx : Hid (wc.heap[b]? = some (.cells #[ps, nums, .slice ap (prow ++ [[.slice av n cv, p1, p2, p3, .int .i64 prow.length]]).length cp, .slice al lrow.length cl] 34 (0, 0))) := (E1.fr.block b hblm D.out.2.2.2.1).trans hbm.out
  have hc3' : wc.cell? ⟨b, 3, none⟩ = some (.slice al lrow.length cl) := (cell_of_row wc b 3 _ _ _ hbx.out).trans rfl
  obtain ⟨e0, e1, e2, e3, e4⟩ := E1.cells
  have hsx := hid (hslm.out.kept E1.fr (fun k hk hv => (D.out.2.2.2.2.2.1 k hv).2 hk))
  have HD1 : Hid (Value.ownBlock (.slice al lrow.length cl) ≠ some b) := D.out.2.1
  have HE1 := hid E1
  clear E1
  go_wp2_with fail
  go_region_law (refine step_append_sl _ rfl (.tmp 36) (.tmp 38) 30 rfl 87 i1 _ 5 104 Tryz.underlying30 hj hy0 hy1 hy2 rfl (by decide) (.slice al lrow.length cl) lrow (by simp [Act.eval]) (((hsx.out).alloc _).drew) ⟨wc.heap.size, 0, none⟩ 1 1 [[.slice au m cu, .slice a1 n1 c1, .slice a2 n2 c2, .slice a3 n3 c3, .int .i64 lrow.length]] (by simp [Act.eval]) rfl (by decide) (by simp) (fun j u h => cell_news wc #[.slice au m cu, .slice a1 n1 c1, .slice a2 n2 c2, .slice a3 n3 c3, .int .i64 lrow.length] 87 j u (by simpa using h)) (fun u hu => by simp at hu; rcases hu with rfl | rfl | rfl | rfl | rfl <;> rfl) (by unfold maxLen; omega) (by omega) ?_; intro a4 c4 w4 G4; have hb4 : Hid (w4.heap[b]? = some (.cells #[ps, nums, .slice ap (prow ++ [[.slice av n cv, p1, p2, p3, .int .i64 prow.length]]).length cp, .slice al lrow.length cl] 34 (0, 0))) := (G4.old (by simp; omega) HD1.out).trans (((((Fr.refl (fun _ => False) wc).alloc _).drew).block b hblc id).trans hbx.out); have hc4 : w4.cell? ⟨b, 3, none⟩ = some (.slice al lrow.length cl) := (cell_of_row w4 b 3 _ _ _ hb4.out).trans rfl; have hf4 : w4.frozen? ⟨b, 3, none⟩ = false := frozen_of_row _ _ _ _ _ hb4.out)

  all_goals
    go_wp2
    go_end0
    exact ⟨rfl, wm, _, _, _, _, _, _, _, _, HBK.out, Booked.of hblm hslm.out (fun k hk => (hownm.lt k hk).2) D.out.2.1 D.out.2.2.2.1 (fun k hk => (D.out.2.2.2.2.2.1 k hk).2) (Fr.refl (fun _ => False) wm) HE1.out (((Fr.refl (fun _ => False) wc).alloc _).drew) G4 hb4.out⟩
end Go.Proofs.YtgiiegppaleldaaGreatDoor
