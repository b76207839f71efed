import Derived.Test.YtgiiegppaleldaaGreatDoorFF
/- Space of the machine and of the face. -/
namespace Go.Proofs.YtgiiegppaleldaaGreatDoor
open Go.RowKit

theorem six_len (L : List (Int × Int × Int × Int)) (s : Int) : (six L s).length = 12 := by rw [six_eq]; rfl

theorem sp_range {w : World} {g m c n : Nat} {Q L : List (Int × Int × Int × Int)} (h : Sl w 216 24 (.slice (some ⟨g, 0, none⟩) m c) (spRows n Q L)) {t : Nat} (ht : t < n) : w.rangeAt g (t * 24) (six Q t) ∧ w.rangeAt g (t * 24 + 12) (six L t) := by
  have R := h.row (i := t) (r := spRow Q L t) (by simp [spRows, ht])
  constructor
  · intro j v hv
    have hj := (List.getElem?_eq_some_iff.1 hv).1
    exact R j v (by unfold spRow; rw [List.getElem?_append_left hj]; exact hv)
  · intro j v hv
    have := R (12 + j) v (by unfold spRow; rw [List.getElem?_append_right (by rw [six_len]; omega), six_len, Nat.add_sub_cancel_left]; exact hv)
    rwa [← Nat.add_assoc] at this

/-- Two lists that came out, in new memory. -/
structure TwoNew (Q L : List (Int × Int × Int × Int)) (t : Int) (w : World) (v u : Value) (w' : World) : Prop where
  vs : Sl w' 67 4 v ((told Q t 6).map qRow)
  us : Sl w' 69 4 u ((told L t 6).map qRow)
  below : Below w.heap.size w w'
  new : ∀ b, v.ownBlock = some b ∨ u.ownBlock = some b → w.heap.size ≤ b
  ne : ∀ b, v.ownBlock = some b → u.ownBlock ≠ some b

theorem TwoNew.kept {Q L : List (Int × Int × Int × Int)} {t : Int} {w : World} {v u : Value} {w1 w2 : World} (h : TwoNew Q L t w v u w1) {T : Nat → Prop} (hf : Fr T w1 w2) (ht : ∀ k, T k → w.heap.size ≤ k ∧ v.ownBlock ≠ some k ∧ u.ownBlock ≠ some k) : TwoNew Q L t w v u w2 :=
  ⟨h.vs.kept hf (fun k hk q => (ht k q).2.1 hk), h.us.kept hf (fun k hk q => (ht k q).2.2 hk), h.below.trans (hf.to_below h.below.size (fun k q => (ht k q).1)), h.new, h.ne⟩

theorem set2c {w : World} {g : Nat} {a0 a1 b0 b1 : Value} {t : TypeId} (h : w.heap[g]? = some (.cells #[a0, a1] t (0, 0))) :
    ((w.setCell ⟨g, 0, none⟩ b0).setCell ⟨g, 1, none⟩ b1).heap[g]? = some (.cells #[b0, b1] t (0, 0)) ∧ Fr (fun k => k = g) w ((w.setCell ⟨g, 0, none⟩ b0).setCell ⟨g, 1, none⟩ b1) :=
  ⟨heap_setCell_same _ g 1 _ t b1 (heap_setCell_same w g 0 _ t b0 h), ((Fr.refl (fun k => k = g) w).setCell (p := ⟨g, 0, none⟩) (fun _ => rfl) _).setCell (p := ⟨g, 1, none⟩) (fun _ => rfl) _⟩

set_option maxRecDepth 100000 in
set_option maxHeartbeats 4000000 in
theorem mSpace_no (x : Nat) (ty : TypeId) (S : Nat → Prop) (K : RK) (t : Int) (w : World) (h : MRep w x ty S K) (s1 : 1 ≤ K.sp) (s3 : K.sp ≤ 3) (ht : ¬ (0 ≤ t ∧ t < K.sp)) :
    Calls Tryz.prog 90 #[.pointer (some ⟨x, 0, none⟩), .int .i64 t] w fun e w' => ∃ s, e = .returned (.tuple #[.agg #[.slice none 0 0, .slice none 0 0], .iface 153 (.agg #[.string s, .iface 155 (.agg #[.int .i64 3])])]) ∧ Below w.heap.size w w' := by
  obtain ⟨cs, ln, vt, rv, vs, hm, hl, hS⟩ := h
  have hc6 := (hm.cell 6).trans hm.c6
  have lx := (Array.getElem?_eq_some_iff.1 hm.blk).1
  obtain ⟨a, c, ev⟩ := hm.sp.slice
  have hlen : (spRows K.sp.toNat K.passes K.leaves).length = K.sp.toNat := by simp [spRows]
  rw [hlen] at ev
  subst ev
  have HT : Hid (¬ (0 ≤ t ∧ t < (K.sp.toNat : Int))) := by unfold Hid; omega
  generalize K.sp.toNat = m at *
  clear hm hl hS ht
  go_enter Tryz.func90, Tryz.ntmps90
  go_wp2_with (go_at_call 114; refine (pickS_no a m c t _ HT.out).mono ?_; rintro e w1 ⟨rfl, rfl⟩)
  exact bodyPost_ret (results_row_tmp Tryz.results90 _ _ w.heap.size 143 _ (0, 0) _ _ rfl (heap_alloc_new w _) Tryz.underlying143 rfl (by kernel_rfl) rfl) rfl ⟨_, rfl, (Below.refl _ w).alloc (Nat.le_refl _) _⟩

set_option maxRecDepth 100000 in
set_option maxHeartbeats 4000000 in
theorem mSpace_yes (x : Nat) (ty : TypeId) (S : Nat → Prop) (K : RK) (t : Nat) (w : World) (h : MRep w x ty S K) (s1 : 1 ≤ K.sp) (s3 : K.sp ≤ 3) (ht : (t : Int) < K.sp) (rq : ∀ (i : Nat) p, K.passes[i]? = some p → p.2.2.2 ≠ 0) (rl : ∀ (i : Nat) p, K.leaves[i]? = some p → p.2.2.2 ≠ 0) :
    Calls Tryz.prog 90 #[.pointer (some ⟨x, 0, none⟩), .int .i64 t] w fun e w' => ∃ av nv cv au nu cu, e = .returned (.tuple #[.agg #[.slice av nv cv, .slice au nu cu], .nilIface]) ∧ TwoNew K.passes K.leaves t w (.slice av nv cv) (.slice au nu cu) w' := by
  obtain ⟨cs, ln, vt, rv, vs, hm, hl, hS⟩ := h
  have hc6 := (hm.cell 6).trans hm.c6
  have lx := (Array.getElem?_eq_some_iff.1 hm.blk).1
  obtain ⟨a, c, ev⟩ := hm.sp.slice
  have hlen : (spRows K.sp.toNat K.passes K.leaves).length = K.sp.toNat := by simp [spRows]
  rw [hlen] at ev
  subst ev
  have htm : t < K.sp.toNat := by omega
  obtain ⟨g, ea, hx⟩ := hm.sp.is_some (by omega)
  clear hx
  subst ea
  have hgl : g < w.heap.size := hm.sp.lt rfl
  have R := sp_range hm.sp htm
  rw [six_eq, six_eq] at R
  have HR := hid (And.intro R (And.intro rq rl))
  generalize K.sp.toNat = m at *
  clear hm hl hS ht R rq rl
  generalize K.passes = Q at *
  generalize K.leaves = L at *
  go_enter Tryz.func90, Tryz.ntmps90
  go_wp2_with (first
    | (go_at_call 114; refine (pickS_yes g m c t _ htm).mono ?_; rintro e w1 ⟨rfl, rfl⟩)
    | (go_at_call 115; refine (tellPasses_any g (t * 24) t Q (w.alloc (.cells #[.slice none 0 0, .slice none 0 0] 143)) (by simp; omega) (World.rangeAt_alloc HR.out.1.1 _) HR.out.2.1).mono ?_; rintro e w2 ⟨av, nv, cv, rfl, H2⟩; replace H2 := hid H2)
    | (go_at_call 116; refine (tellLeaves_any g (t * 24) t L w2 ?_ ?_ HR.out.2.2).mono ?_; (have := H2.out.2.1.size; simp at this; omega); (exact rangeAt_cells (World.rangeAt_alloc HR.out.1.2 _) (H2.out.2.1.block g (by simp; omega))); rintro e w3 ⟨au, nu, cu, rfl, H3⟩; replace H3 := hid H3; have hb3 : Hid (w3.heap[w.heap.size]? = some (.cells #[.slice none 0 0, .slice none 0 0] 143 (0, 0))) := ((H3.out.2.1.block _ (by have := H2.out.2.1.size; simp at this; omega)).trans ((H2.out.2.1.block _ (by simp)).trans (heap_alloc_new w _))); have hc0 : w3.cell? ⟨w.heap.size, 0, none⟩ = some (.slice none 0 0) := (cell_of_row w3 _ 0 _ _ _ hb3.out).trans rfl; have hc1 : w3.cell? ⟨w.heap.size, 1, none⟩ = some (.slice none 0 0) := (cell_of_row w3 _ 1 _ _ _ hb3.out).trans rfl; have hf0 := frozen_of_row w3 w.heap.size 0 _ _ hb3.out; have hf1 := frozen_of_row w3 w.heap.size 1 _ _ hb3.out))
  have S2 := set2c (b0 := .slice av nv cv) (b1 := .slice au nu cu) hb3.out
  refine bodyPost_ret (results_row_tmp Tryz.results90 _ _ w.heap.size 143 _ (0, 0) _ _ rfl S2.1 Tryz.underlying143 rfl (by kernel_rfl) rfl) rfl ⟨_, _, _, _, _, _, rfl, ?_⟩
  have z2 := H2.out.2.1.size
  have z3 := H3.out.2.1.size
  simp only [size_alloc] at z2
  have nv' : ∀ k, Value.ownBlock (.slice av nv cv) = some k → w.heap.size + 1 ≤ k := fun k hk => by have := H2.out.2.2 k hk; simpa using this
  have nu' : ∀ k, Value.ownBlock (.slice au nu cu) = some k → w2.heap.size ≤ k := H3.out.2.2
  have T3 : TwoNew Q L t w (.slice av nv cv) (.slice au nu cu) w3 := by
    refine ⟨H2.out.1.kept (Fr.of_below H3.out.2.1 (fun _ => False)) (fun _ _ h => h), H3.out.1, ?_, ?_, ?_⟩
    · exact (((Below.refl _ w).alloc (Nat.le_refl _) _).trans (H2.out.2.1.mono (by simp))).trans (H3.out.2.1.mono (by omega))
    · rintro b (hb | hb)
      · have := nv' b hb; omega
      · have := nu' b hb; omega
    · intro b hb hb2
      have := H2.out.1.lt hb
      have := nu' b hb2
      omega
  refine T3.kept S2.2 (fun k e => ⟨by omega, fun h => by have := nv' k h; omega, fun h => by have := nu' k h; omega⟩)

set_option maxRecDepth 100000 in
set_option maxHeartbeats 4000000 in
theorem fSpace_no (x : Nat) (S : Nat → Prop) (K : RK) (t : Int) (w : World) (hg : Gl w) (h : MRep w x 105 S K) (s1 : 1 ≤ K.sp) (s3 : K.sp ≤ 3) (ht : ¬ (0 ≤ t ∧ t < K.sp)) :
    Calls Tryz.prog 70 #[.pointer (some ⟨x, 0, none⟩), .int .i64 t] w fun e w' => e = .returned (.tuple #[.agg #[.slice none 0 0, .slice none 0 0], .int .i64 3]) ∧ Below w.heap.size w w' := by
  have C := hid (mSpace_no x 105 S K t (w.alloc (.cells #[.slice none 0 0, .slice none 0 0] 143)) (h.kept ((Fr.refl (fun _ => False) w).alloc _) (fun _ _ h => h)) s1 s3 ht)
  clear h s1 s3 ht
  go_enter Tryz.func70, Tryz.ntmps70
  go_wp2_with (go_at_call 90; refine C.out.mono ?_; rintro e w2 ⟨s, rfl, H2⟩; replace H2 := hid H2)
  have hb2 : w2.heap[w.heap.size]? = some (.cells #[.slice none 0 0, .slice none 0 0] 143 (0, 0)) := (H2.out.block _ (by simp)).trans (heap_alloc_new w _)
  have lw2 : w.heap.size < w2.heap.size := (Array.getElem?_eq_some_iff.1 hb2).1
  have B3 : ∀ w3 : World, Below (w2.alloc (.cells #[.slice none 0 0, .slice none 0 0] 143)).drew.heap.size (w2.alloc (.cells #[.slice none 0 0, .slice none 0 0] 143)).drew w3 → Hid (w3.heap[w2.heap.size]? = some (.cells #[.slice none 0 0, .slice none 0 0] 143 (0, 0)) ∧ w3.heap[w.heap.size]? = some (.cells #[.slice none 0 0, .slice none 0 0] 143 (0, 0)) ∧ Below w.heap.size w w3) := by
    intro w3 h3
    have hh : (w2.alloc (.cells #[.slice none 0 0, .slice none 0 0] 143)).drew.heap.size = w2.heap.size + 1 := by simp
    rw [hh] at h3
    refine ⟨(h3.block _ (by omega)).trans (heap_alloc_new w2 _), (h3.block _ (by omega)).trans ((Below.heap_alloc w2 _ _ lw2).trans hb2), ?_⟩
    have hB : Below w.heap.size w w2 := (((Below.refl _ w).alloc (Nat.le_refl _) _).trans (H2.out.mono (by simp)))
    exact (hB.alloc (by omega) _).drew.trans (h3.mono (by omega))
  have HB3 := hid B3
  clear B3 hb2
  go_region_with (go_at_call 40; refine (number_met1 s 3 (w2.alloc (.cells #[.slice none 0 0, .slice none 0 0] 143)).drew ((((hg.alloc _).below (by rw [size_alloc]; simpa using H2.out)).alloc _))).mono ?_; rintro e w3 ⟨rfl, H3⟩; have G3 := HB3.out w3 H3; have c30 : w3.cell? ⟨w2.heap.size, 0, none⟩ = some (.slice none 0 0) := (cell_of_row w3 _ 0 _ _ _ G3.out.1).trans rfl; have c31 : w3.cell? ⟨w2.heap.size, 1, none⟩ = some (.slice none 0 0) := (cell_of_row w3 _ 1 _ _ _ G3.out.1).trans rfl; have d30 : w3.cell? ⟨w.heap.size, 0, none⟩ = some (.slice none 0 0) := (cell_of_row w3 _ 0 _ _ _ G3.out.2.1).trans rfl; have d31 : w3.cell? ⟨w.heap.size, 1, none⟩ = some (.slice none 0 0) := (cell_of_row w3 _ 1 _ _ _ G3.out.2.1).trans rfl; have f30 := frozen_of_row w3 w.heap.size 0 _ _ G3.out.2.1; have f31 := frozen_of_row w3 w.heap.size 1 _ _ G3.out.2.1; clear H3)
  all_goals
    try go_wp2
    exact bodyPost_ret (results_row_tmp Tryz.results70 _ _ w.heap.size 143 _ (0, 0) _ _ rfl (set2c G3.out.2.1).1 Tryz.underlying143 rfl (by kernel_rfl) rfl) rfl ⟨rfl, (G3.out.2.2.setCell (p := ⟨w.heap.size, 0, none⟩) (Nat.le_refl _) _).setCell (p := ⟨w.heap.size, 1, none⟩) (Nat.le_refl _) _⟩

set_option maxRecDepth 100000 in
set_option maxHeartbeats 4000000 in
theorem fSpace_yes (x : Nat) (S : Nat → Prop) (K : RK) (t : Nat) (w : World) (h : MRep w x 105 S K) (s1 : 1 ≤ K.sp) (s3 : K.sp ≤ 3) (ht : (t : Int) < K.sp) (rq : ∀ (i : Nat) p, K.passes[i]? = some p → p.2.2.2 ≠ 0) (rl : ∀ (i : Nat) p, K.leaves[i]? = some p → p.2.2.2 ≠ 0) :
    Calls Tryz.prog 70 #[.pointer (some ⟨x, 0, none⟩), .int .i64 t] w fun e w' => ∃ av nv cv au nu cu, e = .returned (.tuple #[.agg #[.slice av nv cv, .slice au nu cu], .int .i64 0]) ∧ TwoNew K.passes K.leaves t w (.slice av nv cv) (.slice au nu cu) w' := by
  have C := hid (mSpace_yes x 105 S K t (w.alloc (.cells #[.slice none 0 0, .slice none 0 0] 143)) (h.kept ((Fr.refl (fun _ => False) w).alloc _) (fun _ _ h => h)) s1 s3 ht rq rl)
  clear h s1 s3 ht rq rl
  generalize K.passes = Q at *
  generalize K.leaves = L at *
  go_enter Tryz.func70, Tryz.ntmps70
  go_wp2_with (go_at_call 90; refine C.out.mono ?_; rintro e w2 ⟨av, nv, cv, au, nu, cu, rfl, H2⟩; replace H2 := hid H2)
  have hb2 : w2.heap[w.heap.size]? = some (.cells #[.slice none 0 0, .slice none 0 0] 143 (0, 0)) := (H2.out.below.block _ (by simp)).trans (heap_alloc_new w _)
  have lw2 : w.heap.size < w2.heap.size := (Array.getElem?_eq_some_iff.1 hb2).1
  have B3 : ∀ w3 : World, Below (w2.alloc (.cells #[.slice av nv cv, .slice au nu cu] 143)).drew.heap.size (w2.alloc (.cells #[.slice av nv cv, .slice au nu cu] 143)).drew w3 → Hid (w3.heap[w2.heap.size]? = some (.cells #[.slice av nv cv, .slice au nu cu] 143 (0, 0)) ∧ w3.heap[w.heap.size]? = some (.cells #[.slice none 0 0, .slice none 0 0] 143 (0, 0)) ∧ TwoNew Q L t (w.alloc (.cells #[.slice none 0 0, .slice none 0 0] 143)) (.slice av nv cv) (.slice au nu cu) w3) := by
    intro w3 h3
    have hh : (w2.alloc (.cells #[.slice av nv cv, .slice au nu cu] 143)).drew.heap.size = w2.heap.size + 1 := by simp
    rw [hh] at h3
    refine ⟨(h3.block _ (by omega)).trans (heap_alloc_new w2 _), (h3.block _ (by omega)).trans ((Below.heap_alloc w2 _ _ lw2).trans hb2), ?_⟩
    have hf : Fr (fun _ => False) w2 w3 := (((Fr.refl (fun _ => False) w2).alloc _).drew).trans (Fr.of_below (by rw [hh]; exact h3) _)
    exact H2.out.kept hf (fun _ h => h.elim)
  have HB3 := hid B3
  clear B3 hb2
  go_region_with (go_at_call 40; refine (number_nil _).mono ?_; rintro e w3 ⟨rfl, H3⟩; have G3 := HB3.out w3 H3; have c30 : w3.cell? ⟨w2.heap.size, 0, none⟩ = some (.slice av nv cv) := (cell_of_row w3 _ 0 _ _ _ G3.out.1).trans rfl; have c31 : w3.cell? ⟨w2.heap.size, 1, none⟩ = some (.slice au nu cu) := (cell_of_row w3 _ 1 _ _ _ G3.out.1).trans rfl; have d30 : w3.cell? ⟨w.heap.size, 0, none⟩ = some (.slice none 0 0) := (cell_of_row w3 _ 0 _ _ _ G3.out.2.1).trans rfl; have d31 : w3.cell? ⟨w.heap.size, 1, none⟩ = some (.slice none 0 0) := (cell_of_row w3 _ 1 _ _ _ G3.out.2.1).trans rfl; have f30 := frozen_of_row w3 w.heap.size 0 _ _ G3.out.2.1; have f31 := frozen_of_row w3 w.heap.size 1 _ _ G3.out.2.1; clear H3)
  all_goals
    try go_wp2
    have S2 := set2c (b0 := .slice av nv cv) (b1 := .slice au nu cu) G3.out.2.1
    refine bodyPost_ret (results_row_tmp Tryz.results70 _ _ w.heap.size 143 _ (0, 0) _ _ rfl S2.1 Tryz.underlying143 rfl (by kernel_rfl) rfl) rfl ⟨_, _, _, _, _, _, rfl, ?_⟩
    have N := G3.out.2.2
    have n1 := N.new
    simp only [size_alloc] at n1
    have N' : TwoNew Q L t w (.slice av nv cv) (.slice au nu cu) w3 := ⟨N.vs, N.us, ((Below.refl _ w).alloc (Nat.le_refl _) _).trans (N.below.mono (by simp)), fun b hb => by have := n1 b hb; omega, N.ne⟩
    exact N'.kept S2.2 (fun k e => ⟨by omega, fun h => by have := n1 k (.inl h); omega, fun h => by have := n1 k (.inr h); omega⟩)
end Go.Proofs.YtgiiegppaleldaaGreatDoor
