import Derived.Test.YtgiiegppaleldaaGreatDoorAA
import Derived.Deep.QuietTactic
import Derived.BigQuiet
import Derived.BigRegion
/- endTurn, spend, Tick, caller, Yield of the machine. -/
namespace Go.Proofs.YtgiiegppaleldaaGreatDoor
open Go.RowKit

theorem Sl.thcell {w : World} {g m c : Nat} {ts : List (Int × Int × Int × Int)} (h : Sl w 206 8 (.slice (some ⟨g, 0, none⟩) m c) (ts.map thRow)) {t : Nat} {u : Int × Int × Int × Int} (ht : ts[t]? = some u) (j : Nat) (hj : j < 8) : w.cell? ⟨g, t * 8 + j, none⟩ = (thRow u)[j]? := by
  have hl := (List.getElem?_eq_some_iff.1 ht).1
  rw [h.cell t j (by simpa using hl) hj]
  have := (List.getElem?_eq_some_iff.1 ht).2
  simp [this]

theorem nodup_le : ∀ (m : Nat) (l : List Nat), l.Nodup → (∀ t ∈ l, t < m) → l.length ≤ m
  | 0, l, _, h => by
    cases l with
    | nil => simp
    | cons a r => exact absurd (h a (by simp)) (by omega)
  | m + 1, l, hn, h => by
    have h1 : (l.erase m).length ≤ m := nodup_le m (l.erase m) (hn.sublist List.erase_sublist) (fun t ht => by
      have h2 := (hn.mem_erase_iff).1 ht
      have := h t h2.2
      have := h2.1
      omega)
    have : l.length ≤ (l.erase m).length + 1 := by
      by_cases hm : m ∈ l
      · rw [List.length_erase_of_mem hm]; omega
      · rw [List.erase_of_not_mem hm]; omega
    omega

theorem ln_le {ts : List (Int × Int × Int × Int)} {last : Int} {ln : Nat → List Nat} (h : Lined ts last ln) {m : Nat} (hm : ts.length = m) (h6 : m ≤ 6) (r : Nat) : (ln r).length ≤ 1000 := by
  have := nodup_le ts.length (ln r) (h.nodup r) (fun t ht => h.lt ht)
  omega

set_option maxRecDepth 100000 in
set_option maxHeartbeats 4000000 in
theorem endTurn_any (x : Nat) (ty : TypeId) (cs : Array Value) (cl : Int × (Nat → Int)) (ts : List (Int × Int × Int × Int)) (n : Nat) (Q L : List (Int × Int × Int × Int)) (ln : Nat → List Nat) (vt : Value) (rv : Nat → Value) (vs : Value) (last : Int) (t : Nat) (u : Int × Int × Int × Int) (w : World)
    (h : MAt w x ty cs cl ts n Q L ln vt rv vs) (hl : Lined ts last ln) (hu : ts[t]? = some u) (h6 : ts.length ≤ 6) :
    Calls Tryz.prog 83 #[.pointer (some ⟨x, 0, none⟩), .int .i64 t] w fun e w' => e = .returned (.tuple #[]) ∧ ∃ cs' rv', MAt w' x ty cs' cl ((ts.modify t (fun u => (u.1, u.2.1, u.2.2.1, 3))).modify t (fun u => (u.1, u.2.1, last, u.2.2.2))) n Q L (comeLast ln u.2.1.toNat t) vt rv' vs ∧ Fr (MOwn x vt rv vs) w w' ∧ ∀ k, MOwn x vt rv' vs k → MOwn x vt rv vs k ∨ w.heap.size ≤ k := by
  have htl := (List.getElem?_eq_some_iff.1 hu).1
  obtain ⟨a, c, ev⟩ := h.th.slice
  rw [List.length_map] at ev
  subst ev
  obtain ⟨g, ea, hx⟩ := h.th.is_some (by omega)
  clear hx
  subst ea
  have hrow := hl.row t u hu
  obtain ⟨r, hr⟩ := Int.eq_ofNat_of_zero_le hrow.1
  have hr4 : r < 4 := by omega
  have hc1 := (h.cell 1).trans h.c1
  have hth := h.th
  have k1 := hth.thcell hu 1 (by omega)
  have k2 := hth.thcell hu 2 (by omega)
  have kf := hth.fro (t * 8 + 2)
  have hs := h.setLeft hu 3
  have hc1' := (hs.1.cell 1).trans hs.1.c1
  have hgx : g ≠ x := fun e => h.n1 (by rw [e]; rfl)
  have k1' : (w.setCell ⟨g, t * 8 + 2, none⟩ (.int .i64 3)).cell? ⟨g, t * 8 + 1, none⟩ = some (.int .i64 u.2.1) := by
    have hm : (ts.modify t (fun u => (u.1, u.2.1, u.2.2.1, 3)))[t]? = some (u.1, u.2.1, u.2.2.1, 3) := by rw [List.getElem?_modify]; simp [hu]
    exact (hs.1.th.thcell hm 1 (by omega)).trans rfl
  simp only [thRow, List.getElem?_cons_succ, List.getElem?_cons_zero] at k1 k2
  generalize hm : ts.length = m at *
  generalize hw1 : w.setCell ⟨g, t * 8 + 2, none⟩ (.int .i64 3) = w1 at *
  have HW := hid hw1
  have H := hid h
  have HL := hid hl
  have HU := hid hu
  have HS := hid hs
  have HM := hid hm
  rw [hr] at k1 k1' ⊢
  have HR := hid hr
  clear h hl hu hs hm hth hrow hr hw1
  have ht' : (t : Int) < (m : Int) := by omega
  have hr4' : (r : Int) < 4 := by omega
  have e8 : (r : Int).toNat = r := by simp
  rw [e8]
  go_enter Tryz.func83, Tryz.ntmps83
  go_wp2_with fail
  rw [HW.out]
  go_region_with (go_at_call 106; refine (comeLast_any x (2 + r) (rv r) (ln r) t cs ty w1.drew HS.out.1.blk (HS.out.1.row r hr4) (HS.out.1.li r hr4).drew ?_ ?_ (HS.out.1.n2 r hr4)).mono ?_; exact ln_le HL.out HM.out h6 r; exact HL.out.nodup r; rintro e w2 ⟨rfl, v2, H2⟩)
  all_goals
    go_wp2
    go_end0
    obtain ⟨b2, s2, f2, o2⟩ := H2
    have f2' : Fr (fun k => k = x ∨ (rv r).ownBlock = some k) w1 w2 := ⟨f2.os, f2.tape, f2.output, f2.size, f2.block⟩
    have R := HS.out.1.setRow hr4 b2 s2 f2' o2 last
    have hsz : w.heap.size = w1.heap.size := by rw [← HW.out]; simp [World.setCell]
    refine ⟨rfl, _, _, R.1, (HS.out.2.mono (fun k _ e => ?_)).trans (f2'.mono (fun k _ e => ?_)), fun k hk => by rw [hsz]; exact R.2 k hk⟩
    · exact .inr (.inl (by rw [e]; rfl))
    · rcases e with e | e
      · exact .inl e
      · exact .inr (.inr (.inl ⟨r, hr4, e⟩))
end Go.Proofs.YtgiiegppaleldaaGreatDoor

/- spend, Tick, caller, Yield of the machine. -/
namespace Go.Proofs.YtgiiegppaleldaaGreatDoor
open Go.RowKit

def MRep (w : World) (x : Nat) (ty : TypeId) (S : Nat → Prop) (K : RK) : Prop :=
  ∃ cs ln vt rv vs, MAt w x ty cs (K.clock, K.fr) K.threads K.sp.toNat K.passes K.leaves ln vt rv vs ∧ Lined K.threads K.last ln ∧ ∀ k, S k ↔ MOwn x vt rv vs k

theorem MRep.kept {w w' : World} {x : Nat} {ty : TypeId} {S T : Nat → Prop} {K : RK} (h : MRep w x ty S K) (hf : Fr T w w') (ht : ∀ b, S b → ¬ T b) : MRep w' x ty S K := by
  obtain ⟨cs, ln, vt, rv, vs, hm, hl, hs⟩ := h
  exact ⟨cs, ln, vt, rv, vs, hm.kept hf (fun k hk => ht k ((hs k).2 hk)), hl, hs⟩
theorem MRep.lt {w : World} {x : Nat} {ty : TypeId} {S : Nat → Prop} {K : RK} (h : MRep w x ty S K) (b : Nat) (hb : S b) : b < w.heap.size := by
  obtain ⟨cs, ln, vt, rv, vs, hm, hl, hs⟩ := h
  exact hm.lt ((hs b).1 hb)

theorem MAt.setClock {w : World} {x : Nat} {ty : TypeId} {cs : Array Value} {cl : Int × (Nat → Int)} {ts : List (Int × Int × Int × Int)} {n : Nat} {Q L : List (Int × Int × Int × Int)} {ln : Nat → List Nat} {vt : Value} {rv : Nat → Value} {vs : Value}
    (h : MAt w x ty cs cl ts n Q L ln vt rv vs) (a : Int) : MAt (w.setCell ⟨x, 0, none⟩ (.int .u64 a)) x ty (cs.setIfInBounds 0 (.int .u64 a)) (a, cl.2) ts n Q L ln vt rv vs ∧ Fr (fun k => k = x) w (w.setCell ⟨x, 0, none⟩ (.int .u64 a)) := by
  have F : Fr (fun k => k = x) w (w.setCell ⟨x, 0, none⟩ (.int .u64 a)) := (Fr.refl (fun k => k = x) w).setCell (p := ⟨x, 0, none⟩) (fun _ => rfl) _
  refine ⟨⟨heap_setCell_same w x 0 cs ty _ h.blk, by simpa using h.size, ?_, ?_, ?_, ?_, h.th.kept F (fun k hk e => h.n1 (e ▸ hk)), fun r hr => (h.li r hr).kept F (fun k hk e => h.n2 r hr (e ▸ hk)), h.sp.kept F (fun k hk e => h.n3 (e ▸ hk)), h.n1, h.n2, h.n3, h.n4, h.n5, h.n6, fun j hj => by rw [Array.getElem?_setIfInBounds_ne (by omega)]; exact h.fr j hj⟩, F⟩
  · rw [Array.getElem?_setIfInBounds_self_of_lt (by have := h.size; omega)]
  · rw [Array.getElem?_setIfInBounds_ne (by omega)]; exact h.c1
  · intro r hr; rw [Array.getElem?_setIfInBounds_ne (by omega)]; exact h.row r hr
  · rw [Array.getElem?_setIfInBounds_ne (by omega)]; exact h.c6

set_option maxRecDepth 100000 in
set_option maxHeartbeats 4000000 in
theorem spend_more (x : Nat) (ty : TypeId) (cs : Array Value) (cl : Int × (Nat → Int)) (ts : List (Int × Int × Int × Int)) (n : Nat) (Q L : List (Int × Int × Int × Int)) (ln : Nat → List Nat) (vt : Value) (rv : Nat → Value) (vs : Value) (t : Nat) (u : Int × Int × Int × Int) (w : World)
    (h : MAt w x ty cs cl ts n Q L ln vt rv vs) (hu : ts[t]? = some u) (h6 : ts.length ≤ 6) (hl1 : 2 ≤ u.2.2.2) (hl2 : u.2.2.2 ≤ 3) :
    Calls Tryz.prog 80 #[.pointer (some ⟨x, 0, none⟩), .int .i64 t] w fun e w' => e = .returned (.tuple #[]) ∧ MAt w' x ty cs cl (ts.modify t (fun v => (v.1, v.2.1, v.2.2.1, u.2.2.2 - 1))) n Q L ln vt rv vs ∧ Fr (MOwn x vt rv vs) w w' := by
  have htl := (List.getElem?_eq_some_iff.1 hu).1
  obtain ⟨a, c, ev⟩ := h.th.slice
  rw [List.length_map] at ev
  subst ev
  obtain ⟨g, ea, hx⟩ := h.th.is_some (by omega)
  clear hx
  subst ea
  have hc1 := (h.cell 1).trans h.c1
  have hth := h.th
  have k2 := hth.thcell hu 2 (by omega)
  have kf := hth.fro (t * 8 + 2)
  have hs := h.setLeft hu (u.2.2.2 - 1)
  simp only [thRow, List.getElem?_cons_succ, List.getElem?_cons_zero] at k2
  generalize u.2.2.2 = lf at *
  have hgx : g ≠ x := fun e => h.n1 (by rw [e]; rfl)
  generalize hm : ts.length = m at *
  have HS := hid hs
  have HM := hid hm
  clear h hu hs hm hth
  have ht' : (t : Int) < (m : Int) := by omega
  have hz : ((lf - 1 : Int) == 0) = false := by simp; omega
  go_enter Tryz.func80, Tryz.ntmps80
  go_wp2
  go_end0
  exact ⟨rfl, HS.out.1, HS.out.2.mono (fun k _ e => .inr (.inl (by rw [e]; rfl)))⟩

set_option maxRecDepth 100000 in
set_option maxHeartbeats 4000000 in
theorem spend_end (x : Nat) (ty : TypeId) (cs : Array Value) (cl : Int × (Nat → Int)) (ts : List (Int × Int × Int × Int)) (n : Nat) (Q L : List (Int × Int × Int × Int)) (ln : Nat → List Nat) (vt : Value) (rv : Nat → Value) (vs : Value) (last : Int) (t : Nat) (u : Int × Int × Int × Int) (w : World)
    (h : MAt w x ty cs cl ts n Q L ln vt rv vs) (hl : Lined ts last ln) (hu : ts[t]? = some u) (h6 : ts.length ≤ 6) (hl1 : u.2.2.2 = 1) :
    Calls Tryz.prog 80 #[.pointer (some ⟨x, 0, none⟩), .int .i64 t] w fun e w' => e = .returned (.tuple #[]) ∧ ∃ cs' rv', MAt w' x ty cs' cl ((ts.modify t (fun u => (u.1, u.2.1, u.2.2.1, 3))).modify t (fun u => (u.1, u.2.1, last, u.2.2.2))) n Q L (comeLast ln u.2.1.toNat t) vt rv' vs ∧ Fr (MOwn x vt rv vs) w w' ∧ ∀ k, MOwn x vt rv' vs k → MOwn x vt rv vs k ∨ w.heap.size ≤ k := by
  have htl := (List.getElem?_eq_some_iff.1 hu).1
  obtain ⟨a, c, ev⟩ := h.th.slice
  rw [List.length_map] at ev
  subst ev
  obtain ⟨g, ea, hx⟩ := h.th.is_some (by omega)
  clear hx
  subst ea
  have hc1 := (h.cell 1).trans h.c1
  have hth := h.th
  have k2 := hth.thcell hu 2 (by omega)
  have kf := hth.fro (t * 8 + 2)
  have hs := h.setLeft hu 0
  have hl' := hl.setLeft t 0
  have hu' : (ts.modify t (fun v => (v.1, v.2.1, v.2.2.1, 0)))[t]? = some (u.1, u.2.1, u.2.2.1, 0) := by rw [List.getElem?_modify]; simp [hu]
  have h6' : (ts.modify t (fun v => (v.1, v.2.1, v.2.2.1, 0))).length ≤ 6 := by simpa using h6
  have E := endTurn_any x ty cs cl _ n Q L ln _ rv vs last t _ _ hs.1 hl' hu' h6'
  rw [modify_modify_left] at E
  simp only [thRow, List.getElem?_cons_succ, List.getElem?_cons_zero] at k2
  rw [hl1] at k2
  have hgx : g ≠ x := fun e => h.n1 (by rw [e]; rfl)
  generalize hm : ts.length = m at *
  have HS := hid hs
  have HM := hid hm
  have HE := hid E
  clear h hl hl' hu hu' h6' hs hm hth E
  have ht' : (t : Int) < (m : Int) := by omega
  go_enter Tryz.func80, Tryz.ntmps80
  go_wp2_with (go_at_call 83; refine HE.out.mono ?_; rintro e w2 ⟨rfl, H2⟩)
  go_end0
  obtain ⟨cs', rv', h1, h2, h3⟩ := H2
  have hsz : w.heap.size = (w.setCell ⟨g, t * 8 + 2, none⟩ (.int .i64 0)).heap.size := by simp [World.setCell]
  exact ⟨rfl, cs', rv', h1, (HS.out.2.mono (fun k _ e => .inr (.inl (by rw [e]; rfl)))).trans h2, fun k hk => by rw [hsz]; exact h3 k hk⟩
end Go.Proofs.YtgiiegppaleldaaGreatDoor

/- Tick, caller, Yield, and Current, Tick, Yield of the face. -/
namespace Go.Proofs.YtgiiegppaleldaaGreatDoor
open Go.RowKit

theorem cur_nat {ts : List (Int × Int × Int × Int)} (hp : 0 < ts.length) : ∃ (t : Nat) (u : Int × Int × Int × Int), curTo ts ts.length = t ∧ ts[t]? = some u := by
  obtain ⟨j, e, hj, _⟩ := curTo_best ts ts.length (Nat.le_refl _) hp
  exact ⟨j, _, e, List.getElem?_eq_getElem hj⟩

set_option maxRecDepth 100000 in
set_option maxHeartbeats 4000000 in
theorem mTick_any (x : Nat) (ty : TypeId) (S : Nat → Prop) (K : RK) (n : Nat) (w : World) (h : MRep w x ty S K) (ok : K.Ok n) (hn : n ≤ 1000000000000000) :
    Calls Tryz.prog 46 #[.pointer (some ⟨x, 0, none⟩)] w fun e w' => e = .returned (.tuple #[]) ∧ (∃ S', MRep w' x ty S' K.tick ∧ ∀ b, S' b → S b ∨ w.heap.size ≤ b) ∧ Fr S w w' := by
  obtain ⟨cs, ln, vt, rv, vs, hm, hl, hS⟩ := h
  obtain ⟨t, u, et, hu⟩ := cur_nat ok.one
  have hc0 : w.cell? ⟨x, 0, none⟩ = some (.int .u64 K.clock) := (hm.cell 0).trans hm.c0
  have hf0 := frozen_of_row w x 0 cs ty hm.blk
  have hk := hm.setClock (K.clock + 1)
  have C := mCurrent_any x ty _ _ _ _ _ _ ln vt rv vs K.last _ hk.1 hl ok.one
  rw [et] at C
  have hlf := ok.left t u hu
  have hne : ((t : Int) != -1) = true := by simp
  have c0 := ok.clock0
  have c1 := ok.clock1
  have hsz : (w.setCell ⟨x, 0, none⟩ (.int .u64 (K.clock + 1))).heap.size = w.heap.size := by simp [World.setCell]
  have etn : (curTo K.threads K.threads.length).toNat = t := by rw [et]; simp
  have F0 : Fr S w (w.setCell ⟨x, 0, none⟩ (.int .u64 (K.clock + 1))) := hk.2.mono (fun k _ e => (hS k).2 (.inl e))
  by_cases hone : u.2.2.2 = 1
  · have P := spend_end x ty _ _ _ _ _ _ ln vt rv vs K.last t u _ hk.1 hl hu ok.six hone
    have ek : K.tick = (K.ticked.setLeft t 3).toLast t := by
      unfold RK.tick; rw [etn, hu]; simp [hone]
    have hl2 := ((hl.setLeft t 3).toLast (t := t) (u := (u.1, u.2.1, u.2.2.1, 3)) (by rw [List.getElem?_modify]; simp [hu]) (r := u.2.1.toNat) (by have := hl.row t u hu; simp; omega))
    have HH := hid (And.intro C (And.intro P (And.intro ek (And.intro hl2 (And.intro F0 (And.intro hS hsz))))))
    clear C P ek hl2 hm hl hS hk hu etn et ok hlf hone F0 hsz
    go_enter Tryz.func46, Tryz.ntmps46
    go_wp2_with (first
      | (go_at_call 45; refine HH.out.1.mono ?_; rintro e w2 ⟨rfl, rfl⟩)
      | (go_at_call 80; refine HH.out.2.1.mono ?_; rintro e w2 ⟨rfl, H2⟩))
    go_end0
    obtain ⟨cs', rv', h1, h2, h3⟩ := H2
    have hS := HH.out.2.2.2.2.2.1
    refine ⟨rfl, ⟨MOwn x vt rv' vs, ?_, fun b hb => ?_⟩, HH.out.2.2.2.2.1.trans (h2.mono (fun k _ e => (hS k).2 e))⟩
    · rw [HH.out.2.2.1]
      exact ⟨cs', _, vt, rv', vs, h1, HH.out.2.2.2.1, fun _ => Iff.rfl⟩
    · rcases h3 b hb with h | h
      · exact .inl ((hS b).2 h)
      · exact .inr (by rw [← HH.out.2.2.2.2.2.2]; exact h)
  · have P := spend_more x ty _ _ _ _ _ _ ln vt rv vs t u _ hk.1 hu ok.six (by omega) (by omega)
    have ek : K.tick = K.ticked.setLeft t (u.2.2.2 - 1) := by
      unfold RK.tick; rw [etn, hu]; simp; omega
    have hl2 := hl.setLeft t (u.2.2.2 - 1)
    have HH := hid (And.intro C (And.intro P (And.intro ek (And.intro hl2 (And.intro F0 (And.intro hS hsz))))))
    clear C P ek hl2 hm hl hS hk hu etn et ok hlf hone F0 hsz
    go_enter Tryz.func46, Tryz.ntmps46
    go_wp2_with (first
      | (go_at_call 45; refine HH.out.1.mono ?_; rintro e w2 ⟨rfl, rfl⟩)
      | (go_at_call 80; refine HH.out.2.1.mono ?_; rintro e w2 ⟨rfl, H2⟩))
    go_end0
    have hS := HH.out.2.2.2.2.2.1
    refine ⟨rfl, ⟨S, ?_, fun b hb => .inl hb⟩, HH.out.2.2.2.2.1.trans (H2.2.mono (fun k _ e => (hS k).2 e))⟩
    rw [HH.out.2.2.1]
    exact ⟨_, ln, vt, rv, vs, H2.1, HH.out.2.2.2.1, hS⟩

set_option maxRecDepth 100000 in
set_option maxHeartbeats 4000000 in
theorem caller_any (x : Nat) (ty : TypeId) (S : Nat → Prop) (K : RK) (w : World) (h : MRep w x ty S K) (hp : 0 < K.threads.length) :
    Calls Tryz.prog 82 #[.pointer (some ⟨x, 0, none⟩)] w fun e w' => e = .returned (.tuple #[.int .i64 (curTo K.threads K.threads.length), .nilIface]) ∧ w' = w := by
  obtain ⟨cs, ln, vt, rv, vs, hm, hl, hS⟩ := h
  obtain ⟨t, u, et, hu⟩ := cur_nat hp
  have C := mCurrent_any x ty _ _ _ _ _ _ ln vt rv vs K.last _ hm hl hp
  rw [et] at C ⊢
  have hne : ((t : Int) == -1) = false := by simp
  have HH := hid C
  clear C hm hl hS hu et hp
  go_enter Tryz.func82, Tryz.ntmps82
  go_wp2_with (go_at_call 45; refine HH.out.mono ?_; rintro e w2 ⟨rfl, rfl⟩)
  go_ret2
  exact ⟨rfl, rfl⟩

set_option maxRecDepth 100000 in
set_option maxHeartbeats 4000000 in
theorem mYield_any (x : Nat) (ty : TypeId) (S : Nat → Prop) (K : RK) (w : World) (h : MRep w x ty S K) (hp : 0 < K.threads.length) (h6 : K.threads.length ≤ 6) :
    Calls Tryz.prog 56 #[.pointer (some ⟨x, 0, none⟩)] w fun e w' => e = .returned .nilIface ∧ (∃ S', MRep w' x ty S' ((K.setLeft (curTo K.threads K.threads.length).toNat 3).toLast (curTo K.threads K.threads.length).toNat) ∧ ∀ b, S' b → S b ∨ w.heap.size ≤ b) ∧ Fr S w w' := by
  have C := caller_any x ty S K w h hp
  obtain ⟨cs, ln, vt, rv, vs, hm, hl, hS⟩ := h
  obtain ⟨t, u, et, hu⟩ := cur_nat hp
  rw [et] at C ⊢
  have etn : (t : Int).toNat = t := by simp
  rw [etn]
  have E := endTurn_any x ty cs _ _ _ _ _ ln vt rv vs K.last t u _ hm hl hu h6
  have hl2 := ((hl.setLeft t 3).toLast (t := t) (u := (u.1, u.2.1, u.2.2.1, 3)) (by rw [List.getElem?_modify]; simp [hu]) (r := u.2.1.toNat) (by have := hl.row t u hu; simp; omega))
  have HH := hid (And.intro C (And.intro E (And.intro hl2 hS)))
  clear C E hl2 hm hl hS hu et hp h6 etn
  go_enter Tryz.func56, Tryz.ntmps56
  go_wp2_with (first
      | (go_at_call 82; refine HH.out.1.mono ?_; rintro e w2 ⟨rfl, rfl⟩)
      | (go_at_call 83; refine HH.out.2.1.mono ?_; rintro e w2 ⟨rfl, H2⟩))
  go_ret
  obtain ⟨cs', rv', h1, h2, h3⟩ := H2
  have hS := HH.out.2.2.2
  refine ⟨rfl, ⟨MOwn x vt rv' vs, ⟨cs', _, vt, rv', vs, h1, HH.out.2.2.1, fun _ => Iff.rfl⟩, fun b hb => ?_⟩, h2.mono (fun k _ e => (hS k).2 e)⟩
  rcases h3 b hb with h | h
  · exact .inl ((hS b).2 h)
  · exact .inr h

set_option maxRecDepth 100000 in
theorem fCurrent_any (x : Nat) (S : Nat → Prop) (K : RK) (w : World) (h : MRep w x 105 S K) (hp : 0 < K.threads.length) :
    Calls Tryz.prog 15 #[.pointer (some ⟨x, 0, none⟩)] w fun e w' => e = .returned (.int .i64 (curTo K.threads K.threads.length)) ∧ w' = w := by
  obtain ⟨cs, ln, vt, rv, vs, hm, hl, hS⟩ := h
  have C := hid (mCurrent_any x 105 _ _ _ _ _ _ ln vt rv vs K.last _ hm hl hp)
  clear hm hl hS hp
  go_enter Tryz.func15, Tryz.ntmps15
  go_wp2_with (go_at_call 45; refine C.out.mono ?_; rintro e w2 ⟨rfl, rfl⟩)
  go_ret
  exact ⟨rfl, rfl⟩

set_option maxRecDepth 100000 in
theorem fTick_any (x : Nat) (S : Nat → Prop) (K : RK) (n : Nat) (w : World) (h : MRep w x 105 S K) (ok : K.Ok n) (hn : n ≤ 1000000000000000) :
    Calls Tryz.prog 17 #[.pointer (some ⟨x, 0, none⟩)] w fun e w' => e = .returned (.tuple #[]) ∧ (∃ S', MRep w' x 105 S' K.tick ∧ ∀ b, S' b → S b ∨ w.heap.size ≤ b) ∧ Fr S w w' := by
  have C := hid (mTick_any x 105 S K n w h ok hn)
  clear h ok
  go_enter Tryz.func17, Tryz.ntmps17
  go_wp2_with (go_at_call 46; refine C.out.mono ?_; rintro e w2 ⟨rfl, H2⟩)
  go_end0
  exact ⟨rfl, H2⟩

set_option maxRecDepth 100000 in
theorem fYield_any (x : Nat) (S : Nat → Prop) (K : RK) (w : World) (h : MRep w x 105 S K) (hp : 0 < K.threads.length) (h6 : K.threads.length ≤ 6) :
    Calls Tryz.prog 23 #[.pointer (some ⟨x, 0, none⟩)] w fun e w' => e = .returned (.int .i64 0) ∧ (∃ S', MRep w' x 105 S' ((K.setLeft (curTo K.threads K.threads.length).toNat 3).toLast (curTo K.threads K.threads.length).toNat) ∧ ∀ b, S' b → S b ∨ w.heap.size ≤ b) ∧ Fr S w w' := by
  have C := hid (mYield_any x 105 S K w h hp h6)
  clear h hp h6
  go_enter Tryz.func23, Tryz.ntmps23
  go_wp2_with (first
    | (go_at_call 56; refine C.out.mono ?_; rintro e w2 ⟨rfl, H2⟩)
    | (go_at_call 40; refine (number_nil _).mono ?_; rintro e w3 ⟨rfl, H3⟩))
  go_ret
  obtain ⟨⟨S', h1, h2⟩, h3⟩ := H2
  exact ⟨rfl, ⟨S', h1.kept (Fr.of_below H3 (fun _ => False)) (fun _ _ h => h), h2⟩, h3.trans (Fr.of_below H3 S)⟩
end Go.Proofs.YtgiiegppaleldaaGreatDoor
