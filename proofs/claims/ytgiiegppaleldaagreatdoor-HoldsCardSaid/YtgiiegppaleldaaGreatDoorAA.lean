import Derived.Test.YtgiiegppaleldaaGreatDoorZ
import Derived.Test.YtgiiegppaleldaaGreatDoorS
import Derived.Test.YtgiiegppaleldaaGreatDoorU
import Derived.Test.YtgiiegppaleldaaGreatDoorW
/- The program's machine, held against the document's kernel; Current. -/
namespace Go.Proofs.YtgiiegppaleldaaGreatDoor
open Go.RowKit

def thRow (u : Int × Int × Int × Int) : List Value := [.int .i64 u.1, .int .i64 u.2.1, .int .i64 u.2.2.2, .int .i64 1, .int .i64 0, .int .i64 (-1), .slice none 0 0, .int .i64 (-1)]
/-- Two cells for a slot (or a page). -/
def cell2 (o : Option (Int × Int × Int × Int)) : List Value :=
  match o with
  | none => [.int .i64 0, .int .i64 0]
  | some p => [.int .i64 p.2.2.1, .int .i64 p.2.2.2]
def six (L : List (Int × Int × Int × Int)) (s : Int) : List Value := cell2 (findQ L s 0) ++ cell2 (findQ L s 1) ++ cell2 (findQ L s 2) ++ cell2 (findQ L s 3) ++ cell2 (findQ L s 4) ++ cell2 (findQ L s 5)
def spRow (Q L : List (Int × Int × Int × Int)) (s : Nat) : List Value := six Q s ++ six L s
def spRows (n : Nat) (Q L : List (Int × Int × Int × Int)) : List (List Value) := (List.range n).map (spRow Q L)

/-- At first: the clock, and what is stored. -/
abbrev c00 : Int × (Nat → Int) := (0, fr0)

/-- cl: the clock, and what is stored. -/
structure MAt (w : World) (x : Nat) (ty : TypeId) (cs : Array Value) (cl : Int × (Nat → Int)) (ts : List (Int × Int × Int × Int)) (n : Nat) (Q L : List (Int × Int × Int × Int)) (ln : Nat → List Nat) (vt : Value) (rv : Nat → Value) (vs : Value) : Prop where
  blk : w.heap[x]? = some (.cells cs ty (0, 0))
  size : cs.size = 39
  c0 : cs[0]? = some (.int .u64 cl.1)
  c1 : cs[1]? = some vt
  row : ∀ r, r < 4 → cs[2 + r]? = some (rv r)
  c6 : cs[6]? = some vs
  th : Sl w 206 8 vt (ts.map thRow)
  li : ∀ r, r < 4 → Sl w 3 1 (rv r) ((ln r).map lnRow)
  sp : Sl w 216 24 vs (spRows n Q L)
  n1 : vt.ownBlock ≠ some x
  n2 : ∀ r, r < 4 → (rv r).ownBlock ≠ some x
  n3 : vs.ownBlock ≠ some x
  n4 : ∀ r, r < 4 → ∀ k, (rv r).ownBlock = some k → vt.ownBlock ≠ some k ∧ vs.ownBlock ≠ some k
  n5 : ∀ r s, r < 4 → s < 4 → r ≠ s → ∀ k, (rv r).ownBlock = some k → (rv s).ownBlock ≠ some k
  n6 : ∀ k, vt.ownBlock = some k → vs.ownBlock ≠ some k
  fr : ∀ j, j < 32 → cs[7 + j]? = some (.int .i64 (cl.2 j))

def MOwn (x : Nat) (vt : Value) (rv : Nat → Value) (vs : Value) (k : Nat) : Prop := k = x ∨ vt.ownBlock = some k ∨ (∃ r, r < 4 ∧ (rv r).ownBlock = some k) ∨ vs.ownBlock = some k

section
variable {w w' : World} {x : Nat} {ty : TypeId} {cs : Array Value} {cl : Int × (Nat → Int)} {ts : List (Int × Int × Int × Int)} {n : Nat} {Q L : List (Int × Int × Int × Int)} {ln : Nat → List Nat} {vt : Value} {rv : Nat → Value} {vs : Value}

theorem MAt.kept (h : MAt w x ty cs cl ts n Q L ln vt rv vs) {T : Nat → Prop} (hf : Fr T w w') (ht : ∀ k, MOwn x vt rv vs k → ¬ T k) : MAt w' x ty cs cl ts n Q L ln vt rv vs :=
  ⟨(hf.block x (Array.getElem?_eq_some_iff.1 h.blk).1 (ht x (.inl rfl))).trans h.blk, h.size, h.c0, h.c1, h.row, h.c6, h.th.kept hf (fun k hk => ht k (.inr (.inl hk))), fun r hr => (h.li r hr).kept hf (fun k hk => ht k (.inr (.inr (.inl ⟨r, hr, hk⟩)))), h.sp.kept hf (fun k hk => ht k (.inr (.inr (.inr hk)))),
   h.n1, h.n2, h.n3, h.n4, h.n5, h.n6, h.fr⟩
theorem MAt.below (h : MAt w x ty cs cl ts n Q L ln vt rv vs) (hb : Below w.heap.size w w') : MAt w' x ty cs cl ts n Q L ln vt rv vs := h.kept (Fr.of_below hb (fun _ => False)) (fun _ _ h => h)
theorem MAt.lt (h : MAt w x ty cs cl ts n Q L ln vt rv vs) {k : Nat} (hk : MOwn x vt rv vs k) : k < w.heap.size := by
  rcases hk with rfl | hk | ⟨r, hr, hk⟩ | hk
  · exact (Array.getElem?_eq_some_iff.1 h.blk).1
  · exact h.th.lt hk
  · exact (h.li r hr).lt hk
  · exact h.sp.lt hk
theorem MAt.cell (h : MAt w x ty cs cl ts n Q L ln vt rv vs) (j : Nat) : w.cell? ⟨x, j, none⟩ = cs[j]? := cell_of_row w x j _ _ _ h.blk
end

set_option maxRecDepth 100000 in
set_option maxHeartbeats 4000000 in
theorem mCurrent_any (x : Nat) (ty : TypeId) (cs : Array Value) (cl : Int × (Nat → Int)) (ts : List (Int × Int × Int × Int)) (n : Nat) (Q L : List (Int × Int × Int × Int)) (ln : Nat → List Nat) (vt : Value) (rv : Nat → Value) (vs : Value) (last : Int) (w : World)
    (h : MAt w x ty cs cl ts n Q L ln vt rv vs) (hl : Lined ts last ln) (hp : 0 < ts.length) :
    Calls Tryz.prog 45 #[.pointer (some ⟨x, 0, none⟩)] w fun e w' => e = .returned (.int .i64 (curTo ts ts.length)) ∧ w' = w := by
  have H := hid h
  have HL := hid hl
  have HP := hid hp
  clear h hl hp
  go_enter Tryz.func45, Tryz.ntmps45
  go_wp2
  go_loop [3] (fun i => ∃ k : Int, -1 ≤ k ∧ k ≤ 3 ∧ i = .int .i64 k ∧ Hid (∀ s : Nat, k < s → ln s = [])) (fun i => (intOf i + 1).toNat)
  case atStart => exact ⟨3, by omega, by omega, rfl, fun s hs => HL.out.high (by omega)⟩
  case round =>
    obtain ⟨k, hk, hk3, rfl, hno⟩ := hrel
    by_cases hlt : 0 ≤ k
    · obtain ⟨r, rfl⟩ := Int.eq_ofNat_of_zero_le hlt
      have hr4 : r < 4 := by omega
      have hr4' : (r : Int) < 4 := by omega
      have hc := (H.out.cell (2 + r)).trans (H.out.row r hr4)
      obtain ⟨a, c, ev⟩ := (H.out.li r hr4).slice
      rw [List.length_map] at ev
      rw [ev] at hc
      rcases hll : ln r with _ | ⟨t, rest⟩
      · rw [hll] at hc
        have HH := hid hll
        clear hll ev
        go_wp2_with (go_at_call 79; refine (first_no x (2 + r) a c _ hc).mono ?_; rintro e w' ⟨rfl, rfl⟩)
        refine ⟨⟨(r : Int) - 1, by omega, by omega, rfl, fun q hq => ?_⟩, by simp only [intOf]; omega⟩
        by_cases e : q = r
        · rw [e]; exact HH.out
        · exact hno.out q (by omega)
      · have hsl := H.out.li r hr4
        rw [ev, hll] at hsl
        rw [hll] at hc
        simp only [List.length_cons] at hc hsl
        obtain ⟨g, ea, hx⟩ := hsl.is_some (by omega)
        subst ea
        have ht := hsl.cell 0 0 (by simp) (by omega)
        have HH := hid hll
        clear hll ev hsl hx
        go_wp2_with (go_at_call 79; refine (first_yes x (2 + r) g (rest.length + 1) c t _ hc (by omega) ht).mono ?_; rintro e w' ⟨rfl, rfl⟩)
        go_ret
        exact ⟨ret_int (cur_head HL.out HH.out (fun q hq => hno.out q (by omega))).symm, rfl⟩
    · exfalso
      have hkk : k = -1 := by omega
      subst hkk
      rcases cur_some HL.out HP.out with h | h | h | h <;> exact h (hno.out _ (by omega))

/-- The threads' rows behind a change of what is left. -/
theorem th_left (ts : List (Int × Int × Int × Int)) (t : Nat) (u : Int × Int × Int × Int) (m : Int) (h : ts[t]? = some u) : (ts.map thRow).set t ((thRow u).set 2 (.int .i64 m)) = (ts.modify t (fun u => (u.1, u.2.1, u.2.2.1, m))).map thRow :=
  map_modify_row ts thRow (fun u => (u.1, u.2.1, u.2.2.1, m)) t u h
theorem th_last (ts : List (Int × Int × Int × Int)) (t : Nat) (m : Int) : (ts.modify t (fun u => (u.1, u.2.1, m, u.2.2.2))).map thRow = ts.map thRow := by
  apply List.ext_getElem?
  intro i
  simp only [List.getElem?_map, List.getElem?_modify]
  by_cases e : t = i <;> simp [e] <;> (cases ts[i]? <;> rfl)

theorem MAt.setLeft {w : World} {x : Nat} {ty : TypeId} {cs : Array Value} {cl : Int × (Nat → Int)} {ts : List (Int × Int × Int × Int)} {n : Nat} {Q L : List (Int × Int × Int × Int)} {ln : Nat → List Nat} {g m c : Nat} {rv : Nat → Value} {vs : Value}
    (h : MAt w x ty cs cl ts n Q L ln (.slice (some ⟨g, 0, none⟩) m c) rv vs) {t : Nat} {u : Int × Int × Int × Int} (ht : ts[t]? = some u) (a : Int) :
    MAt (w.setCell ⟨g, t * 8 + 2, none⟩ (.int .i64 a)) x ty cs cl (ts.modify t (fun u => (u.1, u.2.1, u.2.2.1, a))) n Q L ln (.slice (some ⟨g, 0, none⟩) m c) rv vs ∧ Fr (fun k => k = g) w (w.setCell ⟨g, t * 8 + 2, none⟩ (.int .i64 a)) := by
  have hl := (List.getElem?_eq_some_iff.1 ht).1
  have F : Fr (fun k => k = g) w (w.setCell ⟨g, t * 8 + 2, none⟩ (.int .i64 a)) := (Fr.refl (fun k => k = g) w).setCell (p := ⟨g, t * 8 + 2, none⟩) (fun _ => rfl) _
  have e := h.th.set t 2 (.int .i64 a) (by simpa using hl) (by omega)
  have e2 : (ts.map thRow)[t]'(by simpa using hl) = thRow u := by
    have := (List.getElem?_eq_some_iff.1 ht).2
    simp [this]
  rw [e2, th_left ts t u a ht] at e
  refine ⟨⟨(F.block x (Array.getElem?_eq_some_iff.1 h.blk).1 (fun q => h.n1 (by rw [q]; rfl))).trans h.blk, h.size, h.c0, h.c1, h.row, h.c6, e, fun r hr => (h.li r hr).kept F (fun k hk q => (h.n4 r hr k hk).1 (by rw [q]; rfl)), h.sp.kept F (fun k hk q => h.n6 g rfl (by rw [← q]; exact hk)), h.n1, h.n2, h.n3, h.n4, h.n5, h.n6, h.fr⟩, F⟩

/-- A row's list is turned. -/
theorem MAt.setRow {w w' : World} {x : Nat} {ty : TypeId} {cs : Array Value} {cl : Int × (Nat → Int)} {ts : List (Int × Int × Int × Int)} {n : Nat} {Q L : List (Int × Int × Int × Int)} {ln : Nat → List Nat} {vt : Value} {rv : Nat → Value} {vs : Value}
    (h : MAt w x ty cs cl ts n Q L ln vt rv vs) {r t : Nat} (hr : r < 4) {v' : Value} (hb : w'.heap[x]? = some (.cells (cs.setIfInBounds (2 + r) v') ty (0, 0))) (hs : Sl w' 3 1 v' (((ln r).erase t ++ [t]).map lnRow)) (hf : Fr (fun k => k = x ∨ (rv r).ownBlock = some k) w w')
    (hn : ∀ k, v'.ownBlock = some k → w.heap.size ≤ k ∨ (rv r).ownBlock = some k) (last : Int) :
    MAt w' x ty (cs.setIfInBounds (2 + r) v') cl (ts.modify t (fun u => (u.1, u.2.1, last, u.2.2.2))) n Q L (comeLast ln r t) vt (fun s => if s = r then v' else rv s) vs ∧ (∀ k, MOwn x vt (fun s => if s = r then v' else rv s) vs k → MOwn x vt rv vs k ∨ w.heap.size ≤ k) := by
  have hx := (Array.getElem?_eq_some_iff.1 h.blk).1
  have nv : ∀ k, v'.ownBlock = some k → k ≠ x ∧ vt.ownBlock ≠ some k ∧ vs.ownBlock ≠ some k ∧ ∀ s, s < 4 → s ≠ r → (rv s).ownBlock ≠ some k := by
    intro k hk
    rcases hn k hk with h1 | h1
    · exact ⟨by omega, fun e => by have := h.th.lt e; omega, fun e => by have := h.sp.lt e; omega, fun s hs _ e => by have := (h.li s hs).lt e; omega⟩
    · exact ⟨fun e => h.n2 r hr (e ▸ h1), (h.n4 r hr k h1).1, (h.n4 r hr k h1).2, fun s hs hne => h.n5 r s hr hs (Ne.symm hne) k h1⟩
  refine ⟨⟨hb, by simpa using h.size, ?_, ?_, ?_, ?_, ?_, ?_, h.sp.kept hf (fun k hk q => ?_), h.n1, ?_, h.n3, ?_, ?_, h.n6, fun j hj => by rw [Array.getElem?_setIfInBounds_ne (by omega)]; exact h.fr j hj⟩, ?_⟩
  · rw [Array.getElem?_setIfInBounds_ne (by omega)]; exact h.c0
  · rw [Array.getElem?_setIfInBounds_ne (by omega)]; exact h.c1
  · intro s hs4
    by_cases e : s = r
    · subst e
      rw [if_pos rfl, Array.getElem?_setIfInBounds_self_of_lt (by have := h.size; omega)]
    · rw [if_neg e, Array.getElem?_setIfInBounds_ne (by omega)]; exact h.row s hs4
  · rw [Array.getElem?_setIfInBounds_ne (by omega)]; exact h.c6
  · rw [th_last]
    refine h.th.kept hf (fun k hk q => ?_)
    rcases q with q | q
    · exact h.n1 (q ▸ hk)
    · exact (h.n4 r hr k q).1 hk
  · intro s hs4
    by_cases e : s = r
    · subst e
      simp only [comeLast, if_pos]
      exact hs
    · simp only [comeLast, if_neg e]
      refine (h.li s hs4).kept hf (fun k hk q => ?_)
      rcases q with q | q
      · exact h.n2 s hs4 (q ▸ hk)
      · exact h.n5 r s hr hs4 (Ne.symm e) k q hk
  · rcases q with q | q
    · exact h.n3 (q ▸ hk)
    · exact (h.n4 r hr k q).2 hk
  · intro s hs4
    by_cases e : s = r
    · simp only [if_pos e]; exact fun q => (nv x q).1 rfl
    · simp only [if_neg e]; exact h.n2 s hs4
  · intro s hs4 k hk
    by_cases e : s = r
    · simp only [if_pos e] at hk; exact ⟨(nv k hk).2.1, (nv k hk).2.2.1⟩
    · simp only [if_neg e] at hk; exact h.n4 s hs4 k hk
  · intro s q hs4 hq4 hne k hk
    by_cases e : s = r
    · simp only [if_pos e] at hk
      simp only [if_neg (show ¬ q = r by omega)]
      exact (nv k hk).2.2.2 q hq4 (by omega)
    · simp only [if_neg e] at hk
      by_cases e2 : q = r
      · simp only [if_pos e2]
        exact fun h2 => (nv k h2).2.2.2 s hs4 e hk
      · simp only [if_neg e2]; exact h.n5 s q hs4 hq4 hne k hk
  · rintro k (hk | hk | ⟨s, hs4, hk⟩ | hk)
    · exact .inl (.inl hk)
    · exact .inl (.inr (.inl hk))
    · by_cases e : s = r
      · simp only [if_pos e] at hk
        rcases hn k hk with h1 | h1
        · exact .inr h1
        · exact .inl (.inr (.inr (.inl ⟨r, hr, h1⟩)))
      · simp only [if_neg e] at hk
        exact .inl (.inr (.inr (.inl ⟨s, hs4, hk⟩)))
    · exact .inl (.inr (.inr (.inr hk)))
end Go.Proofs.YtgiiegppaleldaaGreatDoor
