import Derived.Test.YtgiiegppaleldaaGreatDoorRows
import Derived.Test.YtgiiegppaleldaaGreatDoorL0
import Derived.Test.YtgiiegppaleldaaGreatDoorGG
/- Itoa of numbers below 100. -/
namespace Go.Proofs.YtgiiegppaleldaaGreatDoor
open Go.RowKit

theorem ex_le (s : ByteArray) (a b : Nat) (h : s.size ≤ 1000) : (s.extract a b).size ≤ 1000 := by
  rw [ByteArray.size_extract]
  omega

set_option maxRecDepth 100000 in
set_option maxHeartbeats 4000000 in
theorem small_any (n : Nat) (h : n < 100) (w : World) : Calls Tryz.prog 127 #[.int .i64 n] w fun e w' => ∃ s, e = .returned (.string s) ∧ s.size ≤ 1000 ∧ w' = w := by
  by_cases h10 : n < 10
  · have d : decide ((n : Int) < 10) = true := by simp; omega
    go_enter Tryz.func127, Tryz.ntmps127
    go_wp2
    go_ret
    exact ⟨_, rfl, ex_le _ _ _ (by decide), rfl⟩
  · have d : decide ((n : Int) < 10) = false := by simp; omega
    go_enter Tryz.func127, Tryz.ntmps127
    go_wp2
    go_ret
    exact ⟨_, rfl, ex_le _ _ _ (by decide), rfl⟩

set_option maxRecDepth 100000 in
set_option maxHeartbeats 4000000 in
theorem formatInt_any (n : Nat) (h : n < 100) (w : World) : Calls Tryz.prog 126 #[.int .i64 n, .int .i64 10] w fun e w' => ∃ s, e = .returned (.string s) ∧ s.size ≤ 1000 ∧ w' = w := by
  have d : decide ((0 : Int) ≤ (n : Int)) = true := by simp
  have d2 : decide ((n : Int) < 100) = true := by simp; omega
  go_enter Tryz.func126, Tryz.ntmps126
  go_wp2_with (go_at_call 127; refine (small_any n h _).mono ?_; rintro e w1 ⟨s, rfl, hs, rfl⟩)
  go_ret
  exact ⟨_, rfl, hs, rfl⟩
theorem itoa2_any (n : Nat) (h : n < 100) (w : World) : Calls Tryz.prog 123 #[.int .i64 n] w fun e w' => ∃ s, e = .returned (.string s) ∧ s.size ≤ 1000 ∧ w' = w := by
  go_enter Tryz.func123, Tryz.ntmps123
  go_wp2_with (go_at_call 126; refine (formatInt_any n h _).mono ?_; rintro e w1 ⟨s, rfl, hs, rfl⟩)
  go_ret
  exact ⟨_, rfl, hs, rfl⟩
theorem itoa_any (n : Nat) (h : n < 100) (w : World) : Calls Tryz.prog 117 #[.int .i64 n] w fun e w' => ∃ s, e = .returned (.string s) ∧ s.size ≤ 1000 ∧ w' = w := by
  go_enter Tryz.func117, Tryz.ntmps117
  go_wp2_with (go_at_call 123; refine (itoa2_any n h _).mono ?_; rintro e w1 ⟨s, rfl, hs, rfl⟩)
  go_ret
  exact ⟨_, rfl, hs, rfl⟩
end Go.Proofs.YtgiiegppaleldaaGreatDoor

/- addThread. -/
namespace Go.Proofs.YtgiiegppaleldaaGreatDoor
open Go.RowKit

theorem Tryz.infoN206 : (Tryz.prog.info? 206).map (fun i => (i.zero, i.size, i.bytes)) = some (some (.agg #[.int .i64 0, .int .i64 0, .int .i64 0, .int .i64 0, .int .i64 0, .int .i64 0, .slice none 0 0, .int .i64 0]), 8, 80) := by kernel_rfl

set_option maxRecDepth 100000 in
set_option maxHeartbeats 4000000 in
theorem addThread_no (x : Nat) (ty : TypeId) (cs : Array Value) (cl : Int × (Nat → Int)) (ts : List (Int × Int × Int × Int)) (n : Nat) (Q L : List (Int × Int × Int × Int)) (ln : Nat → List Nat) (vt : Value) (rv : Nat → Value) (vs : Value) (s r : Int) (w : World)
    (h : MAt w x ty cs cl ts n Q L ln vt rv vs) (hb : ¬ (0 ≤ s ∧ s < n ∧ 0 ≤ r ∧ r < 4)) :
    Calls Tryz.prog 97 #[.pointer (some ⟨x, 0, none⟩), .agg #[.int .i64 s, .int .i64 r]] w fun e w' => e = .returned (.iface 155 (.agg #[.int .i64 1])) ∧ Below w.heap.size w w' := by
  have hc6 := (h.cell 6).trans h.c6
  have lx := (Array.getElem?_eq_some_iff.1 h.blk).1
  obtain ⟨a, c, ev⟩ := h.sp.slice
  have hlen : (spRows n Q L).length = n := by simp [spRows]
  rw [hlen] at ev
  subst ev
  clear h hlen
  by_cases h1 : 0 ≤ s ∧ s < (n : Int)
  · have d1 : decide (0 ≤ s ∧ s < (n : Int)) = true := by simpa using h1
    have d2 : decide (0 ≤ r ∧ r < 4) = false := by simp; omega
    clear hb h1
    go_enter Tryz.func97, Tryz.ntmps97
    go_wp2_with fail
    go_quiet ((go_at_call 108; exact Calls.quiet_of_same (below_any _ _ _)))
    go_wp2_with (first | (go_at_call 108; refine (below_any _ _ _).mono ?_; rintro e w1 ⟨rfl, rfl⟩) | (go_at_call 95; refine (noConfig_any _).mono ?_; rintro e w1 ⟨rfl, rfl⟩))
    go_ret
    exact ⟨rfl, below_drewN ((Below.refl _ w).alloc (Nat.le_refl _) _) _⟩
  · have d1 : decide (0 ≤ s ∧ s < (n : Int)) = false := by simpa using h1
    clear hb h1
    go_enter Tryz.func97, Tryz.ntmps97
    go_wp2_with fail
    go_quiet ((go_at_call 108; exact Calls.quiet_of_same (below_any _ _ _)))
    go_wp2_with (first | (go_at_call 108; refine (below_any _ _ _).mono ?_; rintro e w1 ⟨rfl, rfl⟩) | (go_at_call 95; refine (noConfig_any _).mono ?_; rintro e w1 ⟨rfl, rfl⟩))
    go_ret
    exact ⟨rfl, below_drewN ((Below.refl _ w).alloc (Nat.le_refl _) _) _⟩

theorem Fr.after {S T : Nat → Prop} {a b c : World} (h : Fr S a b) (k : Fr T b c) (ht : ∀ i, i < a.heap.size → T i → S i) : Fr S a c := (h.join k).mono (fun i hi e => e.elim id (ht i hi))

theorem MAt.addTh {w wX w4 : World} {x : Nat} {ty : TypeId} {cs : Array Value} {cl : Int × (Nat → Int)} {ts : List (Int × Int × Int × Int)} {n : Nat} {Q L : List (Int × Int × Int × Int)} {ln : Nat → List Nat} {vt : Value} {rv : Nat → Value} {vs v4 : Value} {u : Int × Int × Int × Int}
    (h : MAt w x ty cs cl ts n Q L ln vt rv vs) (hX : Fr (fun _ => False) w wX) (G : Grew 206 8 vt wX v4 (ts.map thRow ++ [thRow u]) w4) :
    MAt (w4.setCell ⟨x, 1, none⟩ v4) x ty (cs.setIfInBounds 1 v4) cl (ts ++ [u]) n Q L ln v4 rv vs ∧ Fr (MOwn x vt rv vs) w (w4.setCell ⟨x, 1, none⟩ v4) ∧ ∀ k, MOwn x v4 rv vs k → MOwn x vt rv vs k ∨ w.heap.size ≤ k := by
  have lx := (Array.getElem?_eq_some_iff.1 h.blk).1
  have hX' := h.kept hX (fun _ _ h => h)
  have F4 : Fr (fun k => vt.ownBlock = some k) w w4 := G.fr (hX.mono (fun _ _ h => h.elim)) (fun k hk _ => hk)
  have F5 : Fr (fun k => k = x) w4 (w4.setCell ⟨x, 1, none⟩ v4) := (Fr.refl (fun k => k = x) w4).setCell (p := ⟨x, 1, none⟩) (fun _ => rfl) _
  have hb4 : w4.heap[x]? = some (.cells cs ty (0, 0)) := (F4.block x lx h.n1).trans h.blk
  have nv : ∀ k, v4.ownBlock = some k → w.heap.size ≤ k ∨ vt.ownBlock = some k := fun k hk => by
    rcases G.at_ k hk with e | e
    · have := hX.size; left; omega
    · exact .inr e
  have nx : ∀ k, v4.ownBlock = some k → k ≠ x := fun k hk e => by
    rcases nv k hk with h1 | h1
    · omega
    · exact h.n1 (e ▸ h1)
  have F := F4.join F5
  refine ⟨⟨heap_setCell_same w4 x 1 cs ty v4 hb4, by simpa using h.size, ?_, ?_, ?_, ?_, ?_, fun r hr => (h.li r hr).kept F ?_, h.sp.kept F ?_, fun e => nx x e rfl, h.n2, h.n3, ?_, h.n5, ?_, fun j hj => by rw [Array.getElem?_setIfInBounds_ne (by omega)]; exact h.fr j hj⟩, (F4.mono (fun k _ e => .inr (.inl e))).trans (F5.mono (fun k _ e => .inl e)), ?_⟩
  · rw [Array.getElem?_setIfInBounds_ne (by omega)]; exact h.c0
  · rw [Array.getElem?_setIfInBounds_self_of_lt (by have := h.size; omega)]
  · intro r hr; rw [Array.getElem?_setIfInBounds_ne (by omega)]; exact h.row r hr
  · rw [Array.getElem?_setIfInBounds_ne (by omega)]; exact h.c6
  · rw [List.map_append]
    exact G.sl.kept F5 (fun k hk e => nx k hk e)
  · rintro k hk (e | e)
    · exact (h.n4 r hr k hk).1 e
    · exact h.n2 r hr (e ▸ hk)
  · rintro k hk (e | e)
    · exact h.n6 k e hk
    · exact h.n3 (e ▸ hk)
  · intro r hr k hk
    refine ⟨fun e => ?_, (h.n4 r hr k hk).2⟩
    rcases nv k e with h1 | h1
    · have := (h.li r hr).lt hk; omega
    · exact (h.n4 r hr k hk).1 h1
  · intro k hk e
    rcases nv k hk with h1 | h1
    · have := h.sp.lt e; omega
    · exact h.n6 k h1 e
  · rintro k (hk | hk | hk | hk)
    · exact .inl (.inl hk)
    · rcases nv k hk with h1 | h1
      · exact .inr h1
      · exact .inl (.inr (.inl h1))
    · exact .inl (.inr (.inr (.inl hk)))
    · exact .inl (.inr (.inr (.inr hk)))

theorem modify_out (ts : List (Int × Int × Int × Int)) (f : (Int × Int × Int × Int) → (Int × Int × Int × Int)) : ts.modify ts.length f = ts := by
  apply List.ext_getElem?
  intro i
  rw [List.getElem?_modify]
  by_cases e : ts.length = i
  · subst e; simp
  · simp [e]

set_option maxRecDepth 100000 in
set_option maxHeartbeats 4000000 in
theorem addThread_yes (x : Nat) (ty : TypeId) (cs : Array Value) (cl : Int × (Nat → Int)) (ts : List (Int × Int × Int × Int)) (n : Nat) (Q L : List (Int × Int × Int × Int)) (ln : Nat → List Nat) (vt : Value) (rv : Nat → Value) (vs : Value) (s : Int) (r : Nat) (w : World)
    (h : MAt w x ty cs cl ts n Q L ln vt rv vs) (hl : Lined ts ts.length ln) (h0 : 0 ≤ s) (h1 : s < n) (hr4 : r < 4) (h6 : ts.length < 6) :
    Calls Tryz.prog 97 #[.pointer (some ⟨x, 0, none⟩), .agg #[.int .i64 s, .int .i64 r]] w fun e w' => e = .returned .nilIface ∧ ∃ cs' vt' rv', MAt w' x ty cs' cl (ts ++ [(s, (r : Int), (ts.length : Int), 3)]) n Q L (comeLast ln r ts.length) vt' rv' vs ∧ Fr (MOwn x vt rv vs) w w' ∧ ∀ k, MOwn x vt' rv' vs k → MOwn x vt rv vs k ∨ w.heap.size ≤ k := by
  obtain ⟨i0, hi0, hz0, hz1, hz2⟩ := info_parts Tryz.infoN206
  have hc6 := (h.cell 6).trans h.c6
  have hc1 := (h.cell 1).trans h.c1
  have lx := (Array.getElem?_eq_some_iff.1 h.blk).1
  obtain ⟨a, c, ev⟩ := h.sp.slice
  have hlen : (spRows n Q L).length = n := by simp [spRows]
  rw [hlen] at ev
  obtain ⟨a2, c2, ev2⟩ := h.th.slice
  rw [List.length_map] at ev2
  subst ev ev2
  obtain ⟨m, hm⟩ : ∃ m, ts.length = m := ⟨_, rfl⟩
  rw [hm] at hc1 h h6 hl ⊢
  have HM := hid (And.intro h (And.intro hl hm))
  clear h hl hlen hm
  have d1 : decide (0 ≤ s ∧ s < (n : Int)) = true := by simp; omega
  have d2 : decide (0 ≤ (r : Int) ∧ (r : Int) < 4) = true := by simp; omega
  have hr4' : (r : Int) < 4 := by omega
  go_enter Tryz.func97, Tryz.ntmps97
  go_wp2_with fail
  go_quiet ((go_at_call 108; exact Calls.quiet_of_same (below_any _ _ _)))
  go_wp2_with (first | (go_at_call 108; refine (below_any _ _ _).mono ?_; rintro e w1 ⟨rfl, rfl⟩) | (go_at_call 95; refine (noConfig_any _).mono ?_; rintro e w1 ⟨rfl, rfl⟩))
  have hbl : Below w.heap.size w ((w.alloc (.cells #[.int .i64 s, .int .i64 r] 65)).drewN nq) := below_drewN ((Below.refl _ w).alloc (Nat.le_refl _) _) _
  have hbx : ((w.alloc (.cells #[.int .i64 s, .int .i64 r] 65)).drewN nq).heap[w.heap.size]? = some (.cells #[.int .i64 s, .int .i64 r] 65 (0, 0)) := heap_alloc_new w _
  generalize (w.alloc (.cells #[.int .i64 s, .int .i64 r] 65)).drewN nq = w1 at hbl hbx ⊢
  have M1 := HM.out.1.below hbl
  have cx1 := (M1.cell 1).trans M1.c1
  have cb0 : w1.cell? ⟨w.heap.size, 0, none⟩ = some (.int .i64 s) := (cell_of_row w1 _ 0 _ _ _ hbx).trans rfl
  have cb1 : w1.cell? ⟨w.heap.size, 1, none⟩ = some (.int .i64 r) := (cell_of_row w1 _ 1 _ _ _ hbx).trans rfl
  have HM1 := hid (And.intro M1 (And.intro hbl hbx))
  have l1 : w.heap.size < w1.heap.size := (Array.getElem?_eq_some_iff.1 hbx).1
  clear M1 hbl hbx
  go_cut [] (fun wc => ∃ cs' rv', Hid (MAt wc x ty cs' cl ts n Q L (comeLast ln r m) (.slice a2 m c2) rv' (.slice a n c) ∧ wc.heap[w.heap.size]? = some (.cells #[.int .i64 s, .int .i64 r] 65 (0, 0)) ∧ Fr (MOwn x (.slice a2 m c2) rv (.slice a n c)) w wc ∧ ∀ k, MOwn x (.slice a2 m c2) rv' (.slice a n c) k → MOwn x (.slice a2 m c2) rv (.slice a n c) k ∨ w.heap.size + 1 ≤ k))
  case first =>
    go_region_with (go_at_call 106; refine (comeLast_any x (2 + r) (rv r) (ln r) m cs ty w1.drew HM1.out.1.blk (HM1.out.1.row r hr4) (HM1.out.1.li r hr4).drew ?_ ?_ (HM1.out.1.n2 r hr4)).mono ?_; exact ln_le HM.out.2.1 HM.out.2.2 (Nat.le_of_lt h6) r; exact HM.out.2.1.nodup r; rintro e w2 ⟨rfl, v2, H2⟩; replace H2 := hid H2)
    all_goals
      go_wp2
      go_meet
      case rel =>
        obtain ⟨b2, s2, f2, o2⟩ := H2.out
        have f2' : Fr (fun k => k = x ∨ (rv r).ownBlock = some k) w1 w2 := ⟨f2.os, f2.tape, f2.output, f2.size, f2.block⟩
        have R := HM1.out.1.setRow hr4 b2 s2 f2' o2 0
        have em := modify_out ts (fun u => (u.1, u.2.1, (0 : Int), u.2.2.2))
        rw [HM.out.2.2] at em
        rw [em] at R
        have fm : ∀ k, (k = x ∨ (rv r).ownBlock = some k) → MOwn x (.slice a2 m c2) rv (.slice a n c) k := fun k e => by
          rcases e with e | e
          · exact .inl e
          · exact .inr (.inr (.inl ⟨r, hr4, e⟩))
        refine ⟨_, _, R.1, (f2'.block _ l1 (fun e => ?_)).trans HM1.out.2.2, (Fr.of_below HM1.out.2.1 _).trans (f2'.mono (fun k _ e => fm k e)), fun k hk => ?_⟩
        · have := HM.out.1.lt (fm _ e); omega
        · rcases R.2 k hk with h | h
          · exact .inl h
          · exact .inr (by omega)
  case rest =>
  obtain ⟨cs', rv', HC⟩ := hcut
  have lxc := (Array.getElem?_eq_some_iff.1 HC.out.1.blk).1
  have dx1 := (HC.out.1.cell 1).trans HC.out.1.c1
  have fx1 := frozen_of_row wc x 1 _ _ HC.out.1.blk
  have db0 : wc.cell? ⟨w.heap.size, 0, none⟩ = some (.int .i64 s) := (cell_of_row wc _ 0 _ _ _ HC.out.2.1).trans rfl
  have db1 : wc.cell? ⟨w.heap.size, 1, none⟩ = some (.int .i64 r) := (cell_of_row wc _ 1 _ _ _ HC.out.2.1).trans rfl
  have lbc : w.heap.size < wc.heap.size := (Array.getElem?_eq_some_iff.1 HC.out.2.1).1
  go_wp2_with fail
  go_region_law (refine step_append_sl _ rfl (.tmp 37) (.tmp 41) 89 rfl 206 i0 _ 8 80 Tryz.underlying89 hi0 hz0 hz1 hz2 rfl (by decide) (.slice a2 m c2) (ts.map thRow) (by simp [Act.eval]) ((HC.out.1.th.alloc _).drew) ⟨wc.heap.size, 0, none⟩ 1 1 [[.int .i64 s, .int .i64 r, .int .i64 3, .int .i64 1, .int .i64 0, .int .i64 (-1), .slice none 0 0, .int .i64 (-1)]] (by simp [Act.eval]) rfl (by decide) (by simp) (fun j u h => cell_news wc #[.int .i64 s, .int .i64 r, .int .i64 3, .int .i64 1, .int .i64 0, .int .i64 (-1), .slice none 0 0, .int .i64 (-1)] 206 j u (by simpa using h)) (fun u hu => by simp at hu; rcases hu with rfl | rfl | rfl | rfl | rfl | rfl | rfl | rfl <;> rfl) (by rw [List.length_map, HM.out.2.2]; unfold maxLen; omega) (by rw [List.length_map, HM.out.2.2]; omega) ?_; intro a4 c4 w4 G4; have hb4 : Hid (w4.heap[x]? = some (.cells cs' ty (0, 0))) := (G4.old (by simp; omega) HC.out.1.n1).trans ((((Fr.refl (fun _ => False) wc).alloc _).drew).block x lxc id |>.trans HC.out.1.blk); have hc4 : w4.cell? ⟨x, 1, none⟩ = some (.slice a2 m c2) := (cell_of_row w4 x 1 _ _ _ hb4.out).trans HC.out.1.c1; have hf4 : w4.frozen? ⟨x, 1, none⟩ = false := frozen_of_row _ _ _ _ _ hb4.out)
  all_goals
    go_wp2
    go_ret
    have A := HC.out.1.addTh (u := (s, (r : Int), (m : Int), 3)) (((Fr.refl (fun _ => False) wc).alloc _).drew) G4
    rw [List.length_map] at A
    refine ⟨rfl, _, _, _, A.1, HC.out.2.2.1.after A.2.1 (fun k hk e => ?_), fun k hk => ?_⟩
    · rcases HC.out.2.2.2 k e with h | h
      · exact h
      · omega
    · rcases A.2.2 k hk with h | h
      · rcases HC.out.2.2.2 k h with h | h
        · exact .inl h
        · exact .inr (by omega)
      · exact .inr (by omega)
end Go.Proofs.YtgiiegppaleldaaGreatDoor
