import Derived.Test.YtgiiegppaleldaaGreatDoorR
/- The document's touch, Load, Store. -/
namespace Go.Proofs.YtgiiegppaleldaaGreatDoor
open Go.RowKit

/-- The space of the current one. -/
def RK.home (K : RK) : Int := match K.threads[(curTo K.threads K.threads.length).toNat]? with
  | some u => u.1
  | none => 0
def hasRt (r a : Int) : Bool := r == 3 || r == a
def RK.touch (K : RK) (pg ce rt : Int) : Int × Int :=
  if inI pg 0 5 = true ∧ inI ce 0 3 = true then
    match findQ K.leaves K.home pg with
    | some p => if hasRt p.2.2.2 rt then (p.2.2.1, 0) else (0, 7)
    | none => (0, 7)
  else (0, 3)

theorem bits_rt {r a : Int} (h : r = 1 ∨ r = 2 ∨ r = 3) (ha : a = 1 ∨ a = 2) : (bits .and .i64 r a == 0) = !hasRt r a := by
  rcases h with rfl | rfl | rfl <;> rcases ha with rfl | rfl <;> rfl

set_option maxRecDepth 100000 in
set_option maxHeartbeats 8000000 in
theorem refTouch_any (y : Nat) (K : RK) (vt vp vl : Value) (pg ce rt : Int) (w : World) (h : RefAt w y K vt vp vl) (hb : K.threads.length ≤ 6) (hp : 0 < K.threads.length) (hl : K.leaves.length ≤ 1000000000000) (ha : Apart K.leaves) (hr : ∀ (i : Nat) p, K.leaves[i]? = some p → 1 ≤ p.2.2.2 ∧ p.2.2.2 ≤ 3) (hrt : rt = 1 ∨ rt = 2) :
    Calls Tryz.prog 58 #[.pointer (some ⟨y, 0, none⟩), .int .i64 pg, .int .i64 ce, .int .i64 rt] w fun e w' => e = .returned (.tuple #[.int .i64 (K.touch pg ce rt).1, .int .i64 (K.touch pg ce rt).2]) ∧ Below w.heap.size w w' := by
  obtain ⟨j, u, ec, hj, hu⟩ : ∃ (j : Nat) (u : Int × Int × Int × Int), curTo K.threads K.threads.length = j ∧ j < K.threads.length ∧ K.threads[j]? = some u := by
    rcases curTo_inv K.threads _ (Nat.le_refl _) with ⟨h0, _⟩ | h1
    · omega
    · exact h1
  have eh : K.home = u.1 := by unfold RK.home; rw [ec, Int.toNat_natCast, hu]
  obtain ⟨a, c, ev⟩ := h.th.slice
  rw [List.length_map] at ev
  subst ev
  obtain ⟨g, ea, hx⟩ := h.th.is_some hp
  clear hx
  subst ea
  obtain ⟨al, cl, el⟩ := h.le.slice
  rw [List.length_map] at el
  subst el
  obtain ⟨m, hm⟩ : ∃ m, K.threads.length = m := ⟨_, rfl⟩
  obtain ⟨ml, hml⟩ : ∃ ml, K.leaves.length = ml := ⟨_, rfl⟩
  have jm : (j : Int) < (m : Int) := by omega
  have jn : j < m := by omega
  have HH := hid (And.intro h (And.intro hu (And.intro ec (And.intro hj (And.intro hb (And.intro hl (And.intro ha (And.intro hr eh))))))))
  have HM := hid (And.intro hm hml)
  have HR := hid hrt
  clear h hu ec hj hb hm hml hp hl ha hr eh hrt
  go_enter Tryz.func58, Tryz.ntmps58
  go_wp2_with fail
  refine (refCurrent_any y K _ vp _ _ HH.out.1 HH.out.2.2.2.2.1).mono ?_
  rintro e w1 ⟨rfl, hb1⟩
  rw [HH.out.2.2.1]
  have h1 := HH.out.1.below hb1
  have c0 : w1.cell? ⟨y, 0, none⟩ = some (.slice (some ⟨g, 0, none⟩) m c) := by rw [← HM.out.1]; exact (cell_of_row w1 y 0 _ _ _ h1.blk).trans rfl
  have c3 : w1.cell? ⟨y, 3, none⟩ = some (.slice al ml cl) := by rw [← HM.out.2]; exact (cell_of_row w1 y 3 _ _ _ h1.blk).trans rfl
  have cg : w1.cell? ⟨g, j * 20, none⟩ = some (.int .i64 u.1) := (h1.th.row (i := j) (r := rtRow u) (by rw [List.getElem?_map, HH.out.2.1]; rfl)) 0 _ rfl
  have H1 := hid (And.intro h1 hb1)
  clear h1 hb1
  by_cases f : inI pg 0 5 = true ∧ inI ce 0 3 = true
  · obtain ⟨f1, f2⟩ := f
    go_wp2_with (go_at_call 61; refine (in_any _ _ _ _).mono ?_; rintro e w2 ⟨rfl, rfl⟩)
    refine (refLeaf_any y K _ vp _ u.1 pg _ H1.out.1 HH.out.2.2.2.2.2.1).mono ?_
    rintro e w2 ⟨r, rfl, hix, rfl⟩
    rcases find_of_ix HH.out.2.2.2.2.2.2.1 hix with ⟨rfl, ef⟩ | ⟨i, p, rfl, hpi, ef, e1, e2⟩
    · have E := hid (show K.touch pg ce rt = (0, 7) by simp [RK.touch, f1, f2, HH.out.2.2.2.2.2.2.2.2, ef])
      clear hix ef
      go_wp2
      go_ret2
      exact ⟨by rw [E.out]; rfl, H1.out.2⟩
    · have E0 : K.touch pg ce rt = if hasRt p.2.2.2 rt then (p.2.2.1, 0) else (0, 7) := by simp [RK.touch, f1, f2, HH.out.2.2.2.2.2.2.2.2, ef]
      have hri := HH.out.2.2.2.2.2.2.2.1 i p hpi
      obtain ⟨p1, p2, p3, p4⟩ := p
      dsimp only at E0 hri
      have hil : i < ml := by rw [← HM.out.2]; exact (List.getElem?_eq_some_iff.1 hpi).1
      have hil' : (i : Int) < (ml : Int) := by omega
      obtain ⟨gl, ea, hx⟩ := H1.out.1.le.is_some (by rw [HM.out.2]; omega)
      clear hx
      subst ea
      have r1 := H1.out.1.le.row (i := i) (r := lRow (p1, p2, p3, p4)) (by rw [List.getElem?_map, hpi]; rfl)
      have l2 : w2.cell? ⟨gl, i * 6 + 2, none⟩ = some (.int .i64 p3) := r1 2 _ rfl
      have l3 : w2.cell? ⟨gl, i * 6 + 3, none⟩ = some (.int .i64 p4) := r1 3 _ rfl
      have h4 : p4 = 1 ∨ p4 = 2 ∨ p4 = 3 := by omega
      clear r1 hix ef e1 e2 hpi hri
      have hbt := bits_rt h4 HR.out
      clear h4
      cases hh : hasRt p4 rt with
      | true =>
        rw [hh] at E0 hbt
        have E := hid E0
        have hbf : (bits .and .i64 p4 rt == 0) = false := hbt
        clear E0 hbt hh
        go_wp2
        go_ret2
        exact ⟨by rw [E.out]; rfl, H1.out.2⟩
      | false =>
        rw [hh] at E0 hbt
        have E := hid E0
        have hbf : (bits .and .i64 p4 rt == 0) = true := hbt
        clear E0 hbt hh
        go_wp2
        go_ret2
        exact ⟨by rw [E.out]; rfl, H1.out.2⟩
  · have E := hid (show K.touch pg ce rt = (0, 3) by rw [RK.touch, if_neg f])
    by_cases f1 : inI pg 0 5 = true
    · have f2 : inI ce 0 3 = false := by cases h : inI ce 0 3 <;> simp_all
      clear f
      go_wp2_with (go_at_call 61; refine (in_any _ _ _ _).mono ?_; rintro e w2 ⟨rfl, rfl⟩)
      go_ret2
      exact ⟨by rw [E.out]; rfl, H1.out.2⟩
    · have f3 : inI pg 0 5 = false := by simpa using f1
      clear f f1
      go_wp2_with (go_at_call 61; refine (in_any _ _ _ _).mono ?_; rintro e w2 ⟨rfl, rfl⟩)
      go_ret2
      exact ⟨by rw [E.out]; rfl, H1.out.2⟩

/-- A frame's cell. -/
theorem kc_fr {vt vp vl : Value} {sp cl la : Int} {fr : Nat → Int} : ∀ j, j < 32 → (kc vt vp vl sp fr cl la)[4 + j]? = some (.int .i64 (fr j))
  | 0, _ | 1, _ | 2, _ | 3, _ | 4, _ | 5, _ | 6, _ | 7, _ | 8, _ | 9, _ | 10, _ | 11, _ | 12, _ | 13, _ | 14, _ | 15, _ | 16, _ | 17, _ | 18, _ | 19, _ | 20, _ | 21, _ | 22, _ | 23, _ | 24, _ | 25, _ | 26, _ | 27, _ | 28, _ | 29, _ | 30, _ | 31, _ => rfl
  | _ + 32, h => absurd h (by omega)
def frSet (fr : Nat → Int) (j : Nat) (n : Int) (i : Nat) : Int := if i = j then n else fr i
theorem kc_set {vt vp vl : Value} {sp cl la : Int} {fr : Nat → Int} {n : Int} : ∀ j, j < 32 → (kc vt vp vl sp fr cl la).setIfInBounds (4 + j) (.int .i64 n) = kc vt vp vl sp (frSet fr j n) cl la
  | 0, _ | 1, _ | 2, _ | 3, _ | 4, _ | 5, _ | 6, _ | 7, _ | 8, _ | 9, _ | 10, _ | 11, _ | 12, _ | 13, _ | 14, _ | 15, _ | 16, _ | 17, _ | 18, _ | 19, _ | 20, _ | 21, _ | 22, _ | 23, _ | 24, _ | 25, _ | 26, _ | 27, _ | 28, _ | 29, _ | 30, _ | 31, _ => rfl
  | _ + 32, h => absurd h (by omega)

/-- The answer of Load: the number, and how it went. -/
def RK.load (K : RK) (pg ce : Int) : Int × Int := if (K.touch pg ce 1).2 = 0 then (K.fr ((K.touch pg ce 1).1.toNat * 4 + ce.toNat), 0) else (0, (K.touch pg ce 1).2)
def RK.stored (K : RK) (pg ce n : Int) : RK := if (K.touch pg ce 2).2 = 0 then { K with fr := frSet K.fr ((K.touch pg ce 2).1.toNat * 4 + ce.toNat) n } else K

theorem touch_ok {K : RK} {pg ce rt : Int} (hf : ∀ (i : Nat) p, K.leaves[i]? = some p → 0 ≤ p.2.2.1 ∧ p.2.2.1 ≤ 7) (h : (K.touch pg ce rt).2 = 0) : (0 ≤ (K.touch pg ce rt).1 ∧ (K.touch pg ce rt).1 ≤ 7) ∧ 0 ≤ ce ∧ ce ≤ 3 := by
  unfold RK.touch at h ⊢
  split at h
  · rename_i hc
    rw [if_pos hc]
    have h2 : 0 ≤ ce ∧ ce ≤ 3 := by have := hc.2; simp [inI] at this; exact this
    refine ⟨?_, h2⟩
    split at h
    · rename_i p hp
      obtain ⟨i, hi⟩ := List.getElem?_of_mem (List.mem_of_find?_eq_some hp)
      split at h
      · rename_i hr
        simp only [hr, if_true]
        exact hf i p hi
      · simp at h
    · simp at h
  · simp at h

set_option maxRecDepth 100000 in
set_option maxHeartbeats 8000000 in
theorem refLoad_any (y : Nat) (K : RK) (vt vp vl : Value) (pg ce : Int) (w : World) (h : RefAt w y K vt vp vl) (hb : K.threads.length ≤ 6) (hp : 0 < K.threads.length) (hl : K.leaves.length ≤ 1000000000000) (ha : Apart K.leaves) (hr : ∀ (i : Nat) p, K.leaves[i]? = some p → 1 ≤ p.2.2.2 ∧ p.2.2.2 ≤ 3) (hf : ∀ (i : Nat) p, K.leaves[i]? = some p → 0 ≤ p.2.2.1 ∧ p.2.2.1 ≤ 7) :
    Calls Tryz.prog 26 #[.pointer (some ⟨y, 0, none⟩), .int .i64 pg, .int .i64 ce] w fun e w' => e = .returned (.tuple #[.int .i64 (K.load pg ce).1, .int .i64 (K.load pg ce).2]) ∧ Below w.heap.size w w' := by
  have HH := hid (And.intro h (And.intro (refTouch_any y K vt vp vl pg ce 1 w h hb hp hl ha hr (.inl rfl)) (touch_ok (pg := pg) (ce := ce) (rt := 1) hf)))
  obtain ⟨f, er, et⟩ : ∃ f er, K.touch pg ce 1 = (f, er) := ⟨_, _, rfl⟩
  have HT := hid et
  clear h hb hp hl ha hr hf et
  go_enter Tryz.func26, Tryz.ntmps26
  go_wp2_with fail
  refine HH.out.2.1.mono ?_
  rintro e w1 ⟨rfl, hb1⟩
  rw [HT.out]
  dsimp only
  by_cases e0 : er = 0
  · subst e0
    have E := hid (show K.load pg ce = (K.fr (f.toNat * 4 + ce.toNat), 0) by simp [RK.load, HT.out])
    obtain ⟨⟨f0, f7⟩, c0, c3⟩ := HH.out.2.2 (by rw [HT.out])
    rw [HT.out] at f0 f7
    dsimp only at f0 f7
    obtain ⟨fn, rfl⟩ : ∃ fn : Nat, f = fn := ⟨f.toNat, by omega⟩
    obtain ⟨cn, rfl⟩ : ∃ cn : Nat, ce = cn := ⟨ce.toNat, by omega⟩
    have f8 : (fn : Int) < 8 := by omega
    have c4 : (cn : Int) < 4 := by omega
    have cc : w1.cell? ⟨y, 4 + fn * 4 + cn, none⟩ = some (.int .i64 (K.fr (fn * 4 + cn))) := by
      rw [Nat.add_assoc]
      exact (cell_of_row w1 y _ _ _ _ (HH.out.1.below hb1).blk).trans (kc_fr _ (by omega))
    have H1 := hid hb1
    clear hb1 f7 c3
    go_wp2
    go_ret2
    exact ⟨by rw [E.out]; rfl, H1.out⟩
  · have E := hid (show K.load pg ce = (0, er) by simp [RK.load, HT.out, e0])
    have e1 : (er == 0) = false := by simp [e0]
    have H1 := hid hb1
    clear hb1 e0
    go_wp2
    go_ret2
    exact ⟨by rw [E.out]; rfl, H1.out⟩
end Go.Proofs.YtgiiegppaleldaaGreatDoor

/- The document's Store. -/
namespace Go.Proofs.YtgiiegppaleldaaGreatDoor
open Go.RowKit

set_option maxRecDepth 100000 in
set_option maxHeartbeats 8000000 in
theorem refStore_any (y : Nat) (K : RK) (vt vp vl : Value) (pg ce n : Int) (w : World) (h : RefAt w y K vt vp vl) (hb : K.threads.length ≤ 6) (hp : 0 < K.threads.length) (hl : K.leaves.length ≤ 1000000000000) (ha : Apart K.leaves) (hr : ∀ (i : Nat) p, K.leaves[i]? = some p → 1 ≤ p.2.2.2 ∧ p.2.2.2 ≤ 3) (hf : ∀ (i : Nat) p, K.leaves[i]? = some p → 0 ≤ p.2.2.1 ∧ p.2.2.1 ≤ 7) :
    Calls Tryz.prog 28 #[.pointer (some ⟨y, 0, none⟩), .int .i64 pg, .int .i64 ce, .int .i64 n] w fun e w' => e = .returned (.int .i64 (K.touch pg ce 2).2) ∧ RefAt w' y (K.stored pg ce n) vt vp vl ∧ Fr (RefOwn y vt vp vl) w w' := by
  have HH := hid (And.intro h (And.intro (refTouch_any y K vt vp vl pg ce 2 w h hb hp hl ha hr (.inr rfl)) (touch_ok (pg := pg) (ce := ce) (rt := 2) hf)))
  obtain ⟨f, er, et⟩ : ∃ f er, K.touch pg ce 2 = (f, er) := ⟨_, _, rfl⟩
  have HT := hid et
  clear h hb hp hl ha hr hf et
  go_enter Tryz.func28, Tryz.ntmps28
  go_wp2_with fail
  refine HH.out.2.1.mono ?_
  rintro e w1 ⟨rfl, hb1⟩
  rw [HT.out]
  dsimp only
  have h1 := HH.out.1.below hb1
  by_cases e0 : er = 0
  · subst e0
    obtain ⟨⟨f0, f7⟩, c0, c3⟩ := HH.out.2.2 (by rw [HT.out])
    rw [HT.out] at f0 f7
    dsimp only at f0 f7
    obtain ⟨fn, rfl⟩ : ∃ fn : Nat, f = fn := ⟨f.toNat, by omega⟩
    obtain ⟨cn, rfl⟩ : ∃ cn : Nat, ce = cn := ⟨ce.toNat, by omega⟩
    have E := hid (show K.stored pg cn n = { K with fr := frSet K.fr (fn * 4 + cn) n } by simp [RK.stored, HT.out])
    have f8 : (fn : Int) < 8 := by omega
    have c4 : (cn : Int) < 4 := by omega
    have hj : fn * 4 + cn < 32 := by omega
    have cc : w1.cell? ⟨y, 4 + fn * 4 + cn, none⟩ = some (.int .i64 (K.fr (fn * 4 + cn))) := by
      rw [Nat.add_assoc]
      exact (cell_of_row w1 y _ _ _ _ h1.blk).trans (kc_fr _ hj)
    have fz : w1.frozen? ⟨y, 4 + fn * 4 + cn, none⟩ = false := frozen_of_row _ _ _ _ _ h1.blk
    have H1 := hid (And.intro h1 (And.intro hb1 hj))
    clear hb1 f7 c3 h1 hj
    go_wp2
    go_ret
    refine ⟨by rw [HT.out]; rfl, ?_, (Fr.of_below H1.out.2.1 _).setCell (p := ⟨y, 4 + fn * 4 + cn, none⟩) (fun _ => .inl rfl) _⟩
    rw [E.out, Nat.add_assoc]
    exact H1.out.1.setCell_y (kc_set _ H1.out.2.2) rfl rfl rfl
  · have E := hid (show K.stored pg ce n = K by simp [RK.stored, HT.out, e0])
    have e1 : (er == 0) = false := by simp [e0]
    have H1 := hid (And.intro h1 hb1)
    clear hb1 e0 h1
    go_wp2
    go_ret
    exact ⟨by rw [HT.out]; rfl, by rw [E.out]; exact H1.out.1, Fr.of_below H1.out.2 _⟩
end Go.Proofs.YtgiiegppaleldaaGreatDoor

/- Appending a part of a slice; the document's Drop. -/
namespace Go.Proofs.YtgiiegppaleldaaGreatDoor
open Go.RowKit

section
variable {P : Program} (w : World)
theorem run_append_any (t ty e : TypeId) (i : TypeInfo) (z : Value) (size bytes : Nat) (ht : P.underlying t = some (.slice e)) (hi : P.info? e = some i) (hz : i.zero = some z)
    (hsize : i.size = size) (hby : i.bytes = bytes) (hzs : z.cells.size = size) (hsz : 0 < size) (v : Value) (R : List (List Value)) (hown : Sl w e size v R) (a : Option Addr) (m c : Nat) (S : List (List Value)) (hs : Inl w size (.slice a m c) S)
    (h63 : R.length + S.length ≤ maxLen) (hbytes : (R.length + S.length) * bytes ≤ 140737488355328) :
    ∃ a' c' w', (Builtin.append_ #[t, t] ty #[v, .slice a m c]).run P w = .ok (.slice a' (R.length + S.length) c') w' ∧ Grew e size v w (.slice a' (R.length + S.length) c') (R ++ S) w' := by
  obtain ⟨a0, c0, ev, hm, hr⟩ := hs.form
  simp only [Value.slice.injEq] at ev
  obtain ⟨rfl, rfl, rfl⟩ := ev
  cases hrows : S with
  | nil =>
    subst hrows
    obtain ⟨av, cv, rfl⟩ := hown.slice
    refine ⟨av, cv, w, ?_, ⟨by simpa using hown, ⟨rfl, rfl, rfl, Nat.le_refl _, fun _ _ _ => rfl⟩, fun k hk => .inr hk⟩⟩
    rcases hown.form with ⟨e1, e2⟩ | ⟨g, cap, e1, hc, _⟩
    · simp only [Value.slice.injEq] at e1
      obtain ⟨rfl, e3, rfl⟩ := e1
      cases a <;> simp [Builtin.append_, run_underlying ht, sizeOf, typeInfo, hi, Builtin.lenOf, Builtin.firstCells, loadCells, loadCellsFrom, e2]
    · simp only [Value.slice.injEq] at e1
      obtain ⟨rfl, _, rfl⟩ := e1
      cases a <;> simp [Builtin.append_, run_underlying ht, sizeOf, typeInfo, hi, Builtin.lenOf, Builtin.firstCells, loadCells, loadCellsFrom, hc, storeCells]
  | cons r rs =>
    rw [← hrows]
    have hpos : 0 < S.length := by rw [hrows]; simp
    rcases hr with hr | ⟨b, off, rfl, hr⟩
    · rw [hr] at hpos; simp at hpos
    exact run_append_sl (P := P) w t ty e i z size bytes ht hi hz hsize hby hzs hsz v R hown ⟨b, off, none⟩ S.length c S rfl hpos hs.len
        (fun j u hu => by rw [Addr.add_mid]; exact hr j u hu) (fun u hu => by obtain ⟨x, hx, hux⟩ := List.mem_flatten.1 hu; exact hs.one x hx u hux) h63 hbytes

theorem wpList_append_any {ops : Array Oper} {rest : List Oper} {o : Oper} {ac : Act} {Q : Exit → Act → World → Prop} (hgd : o.guard = none) (s x : Operand) (t : TypeId)
    (ho : o.op = .call { callee := .builtin .append, args := #[s, x], argTypes := #[t, t] })
    (e : TypeId) (i : TypeInfo) (z : Value) (size bytes : Nat) (ht : P.underlying t = some (.slice e)) (hi : P.info? e = some i) (hz : i.zero = some z)
    (hsize : i.size = size) (hby : i.bytes = bytes) (hzs : z.cells.size = size) (hsz : 0 < size)
    (v : Value) (R : List (List Value)) (hv : ac.eval s = v) (hown : Sl w e size v R) (a : Option Addr) (m c : Nat) (S : List (List Value)) (hx : ac.eval x = .slice a m c) (hs : Inl w size (.slice a m c) S)
    (h63 : R.length + S.length ≤ maxLen) (hbytes : (R.length + S.length) * bytes ≤ 140737488355328)
    (h : ∀ a' c' w', Grew e size v w (.slice a' (R.length + S.length) c') (R ++ S) w' → wpList P ops Q rest (ac.put o.dst (.slice a' (R.length + S.length) c')) w') : wpList P ops Q (o :: rest) ac w := by
  obtain ⟨a', c', w', hr, hG⟩ := run_append_any (P := P) w t o.type e i z size bytes ht hi hz hsize hby hzs hsz v R hown a m c S hs h63 hbytes
  refine wpList_plain hgd fun _ hK => ?_
  unfold Oper.wp execOp
  simp only [ho, resolve, invoke, builtin, Sem.run_bind, Sem.run_pure, Result.andThen_ok, List.map_toArray, List.map_cons, List.map_nil, hv, hx, hr]
  exact hK _ _ (h a' c' w' hG)
end

theorem wpList_append_n {P : Program} (w : World) {ops : Array Oper} {rest : List Oper} {o : Oper} {ac : Act} {Q : Exit → Act → World → Prop} (hgd : o.guard = none) (s x : Operand) (t : TypeId)
    (ho : o.op = .call { callee := .builtin .append, args := #[s, x], argTypes := #[t, t] })
    (e : TypeId) (i : TypeInfo) (z : Value) (size bytes : Nat) (ht : P.underlying t = some (.slice e)) (hi : P.info? e = some i) (hz : i.zero = some z)
    (hsize : i.size = size) (hby : i.bytes = bytes) (hzs : z.cells.size = size) (hsz : 0 < size)
    (v : Value) (R : List (List Value)) (hv : ac.eval s = v) (hown : Sl w e size v R) (a : Option Addr) (m c : Nat) (S : List (List Value)) (hx : ac.eval x = .slice a m c) (hs : Inl w size (.slice a m c) S)
    (n : Nat) (hn : R.length + S.length = n) (h63 : n ≤ maxLen) (hbytes : n * bytes ≤ 140737488355328)
    (h : ∀ a' c' w', Grew e size v w (.slice a' n c') (R ++ S) w' → wpList P ops Q rest (ac.put o.dst (.slice a' n c')) w') : wpList P ops Q (o :: rest) ac w := by
  subst hn
  exact wpList_append_any w hgd s x t ho e i z size bytes ht hi hz hsize hby hzs hsz v R hv hown a m c S hx hs h63 hbytes h

/-- A part of a slice that one owns, as a list to be read. -/
theorem Sl.part {w : World} {e : TypeId} {size : Nat} {g n c : Nat} {rows : List (List Value)} (h : Sl w e size (.slice (some ⟨g, 0, none⟩) n c) rows) (h1 : ∀ r ∈ rows, ∀ u ∈ r, u.oneCell' = true) (k m c' : Nat) (hm : (rows.drop k).take m = [] ∨ k + m ≤ rows.length) (hlen : ((rows.drop k).take m).length = m) (hx : rows.length ≤ maxLen) :
    Inl w size (.slice (some ⟨g, k * size, none⟩) m c') ((rows.drop k).take m) := by
  refine ⟨fun r hr => h.len r (List.mem_of_mem_drop (List.mem_of_mem_take hr)), fun r hr => h1 r (List.mem_of_mem_drop (List.mem_of_mem_take hr)), ⟨_, c', by rw [hlen], ?_, .inr ⟨g, k * size, rfl, ?_⟩⟩⟩
  · rw [hlen]; rcases hm with hm | hm
    · rw [hm] at hlen; simp at hlen; omega
    · omega
  · intro j u hu
    have hl : ∀ r ∈ rows, r.length = size := h.len
    have := h.own.cells (g := g) rfl (k * size + j) u ?_
    · rw [Addr.add_mid, Nat.zero_add] at this; exact this
    · have e1 : rows.flatten = (rows.take k).flatten ++ ((rows.drop k).take m).flatten ++ ((rows.drop k).drop m).flatten := by
        rw [← List.flatten_append, ← List.flatten_append, List.append_assoc, List.take_append_drop, List.take_append_drop]
      have e2 : j < ((rows.drop k).take m).flatten.length := (List.getElem?_eq_some_iff.1 hu).1
      by_cases hk : k ≤ rows.length
      · have e3 : (rows.take k).flatten.length = k * size := by
          rw [flatten_len _ (fun r hr => hl r (List.mem_of_mem_take hr))]; simp [Nat.min_eq_left hk]
        rw [e1, List.append_assoc, List.getElem?_append_right (by omega), e3, Nat.add_sub_cancel_left, List.getElem?_append_left e2]
        exact hu
      · rw [List.drop_of_length_le (by omega)] at hu; simp at hu

/-- What stands behind the first k. -/
theorem Sl.after {w : World} {e : TypeId} {size : Nat} {g n c : Nat} {rows : List (List Value)} (h : Sl w e size (.slice (some ⟨g, 0, none⟩) n c) rows) (h1 : ∀ r ∈ rows, ∀ u ∈ r, u.oneCell' = true) (k : Nat) (hk : k ≤ rows.length) (hc : rows.length ≤ c) (hx : rows.length ≤ maxLen) :
    Inl w size (.slice (if c = k then some ⟨g, 0, none⟩ else some ⟨g, k * size, none⟩) (rows.length - k) (c - k)) (rows.drop k) := by
  by_cases e : c = k
  · have e0 : rows.drop k = [] := List.drop_of_length_le (by omega)
    rw [e0, show rows.length - k = 0 by omega]
    exact ⟨fun r hr => by simp at hr, fun r hr => by simp at hr, ⟨_, _, rfl, by simp, .inl rfl⟩⟩
  · rw [if_neg e]
    have e1 : (rows.drop k).take (rows.length - k) = rows.drop k := List.take_of_length_le (by simp)
    have := h.part h1 k (rows.length - k) (c - k) (.inr (by omega)) (by rw [e1]; simp) hx
    rw [e1] at this
    exact this
end Go.Proofs.YtgiiegppaleldaaGreatDoor

/- The document's Drop. -/
namespace Go.Proofs.YtgiiegppaleldaaGreatDoor
open Go.RowKit

/-- Without the one with these two numbers. -/
def outQ (L : List (Int × Int × Int × Int)) (s n : Int) : List (Int × Int × Int × Int) := L.filter (fun p => !(p.1 == s && p.2.1 == n))
theorem outQ_ix {L : List (Int × Int × Int × Int)} (ha : Apart L) {s n : Int} : ∀ {i : Nat} {p : Int × Int × Int × Int}, L[i]? = some p → p.1 = s → p.2.1 = n → L.take i ++ L.drop (i + 1) = outQ L s n := by
  induction L with
  | nil => intro i p h; simp at h
  | cons q L ih =>
    have ha' : Apart L := fun i k p q hk h1 h2 => ha (i + 1) (k + 1) p q (by omega) (by simpa using h1) (by simpa using h2)
    intro i p h e1 e2
    cases i with
    | zero =>
      simp only [List.getElem?_cons_zero, Option.some.injEq] at h
      subst h
      have : L.filter (fun p => !(p.1 == s && p.2.1 == n)) = L := by
        rw [List.filter_eq_self]
        intro x hx
        obtain ⟨k, hk⟩ := List.getElem?_of_mem hx
        have := ha (k + 1) 0 x q (by omega) (by simpa using hk) (by simp)
        simp only [e1, e2] at this
        simp only [Bool.not_eq_true', Bool.and_eq_false_iff, beq_eq_false_iff_ne]
        by_cases f : x.1 = s
        · right; intro g; exact this ⟨f.symm, g.symm⟩
        · left; exact f
      simp only [outQ, List.take_zero, List.nil_append, Nat.zero_add, List.drop_succ_cons, List.drop_zero]
      rw [List.filter_cons_of_neg (by simp [e1, e2]), this]
    | succ i =>
      have hq : ¬ (q.1 = s ∧ q.2.1 = n) := fun hq => ha (i + 1) 0 p q (by omega) h (by simp) ⟨hq.1.trans e1.symm, hq.2.trans e2.symm⟩
      have := ih ha' (i := i) (p := p) (by simpa using h) e1 e2
      simp only [outQ] at this ⊢
      rw [List.filter_cons_of_pos (by
        by_cases f : q.1 = s
        · have g : ¬ q.2.1 = n := fun g => hq ⟨f, g⟩
          simp [g]
        · simp [f]), ← this]
      simp

def RK.drop (K : RK) (n : Int) : Int × RK :=
  if inI n 0 5 = true then
    match findQ K.passes K.home n with
    | some _ => (0, { K with passes := outQ K.passes K.home n })
    | none => (4, K)
  else (3, K)

set_option maxRecDepth 100000 in
set_option maxHeartbeats 8000000 in
theorem refDrop_any (y : Nat) (K : RK) (vt vp vl : Value) (n : Int) (w : World) (h : RefAt w y K vt vp vl) (hb : K.threads.length ≤ 6) (hp : 0 < K.threads.length) (hl : K.passes.length ≤ 1000000000000) (ha : Apart K.passes) :
    Calls Tryz.prog 34 #[.pointer (some ⟨y, 0, none⟩), .int .i64 n] w fun e w' => ∃ vp', e = .returned (.int .i64 (K.drop n).1) ∧ RefAt w' y (K.drop n).2 vt vp' vl ∧ Fr (RefOwn y vt vp vl) w w' ∧ ∀ k, vp'.ownBlock = some k → vp.ownBlock = some k ∨ w.heap.size ≤ k := by
  obtain ⟨j, u, ec, hj, hu⟩ : ∃ (j : Nat) (u : Int × Int × Int × Int), curTo K.threads K.threads.length = j ∧ j < K.threads.length ∧ K.threads[j]? = some u := by
    rcases curTo_inv K.threads _ (Nat.le_refl _) with ⟨h0, _⟩ | h1
    · omega
    · exact h1
  have eh : K.home = u.1 := by unfold RK.home; rw [ec, Int.toNat_natCast, hu]
  obtain ⟨a, c, ev⟩ := h.th.slice
  rw [List.length_map] at ev
  subst ev
  obtain ⟨g, ea, hx⟩ := h.th.is_some hp
  clear hx
  subst ea
  obtain ⟨ap, cp, el⟩ := h.pa.slice
  rw [List.length_map] at el
  subst el
  obtain ⟨i2, hi2, hx0, hx1, hx2⟩ := info_parts Tryz.infoN67
  obtain ⟨m, hm⟩ : ∃ m, K.threads.length = m := ⟨_, rfl⟩
  obtain ⟨mp, hmp⟩ : ∃ mp, K.passes.length = mp := ⟨_, rfl⟩
  have jm : (j : Int) < (m : Int) := by omega
  have jn : j < m := by omega
  have HH := hid (And.intro h (And.intro hu (And.intro ec (And.intro hb (And.intro hl (And.intro ha eh))))))
  have HM := hid (And.intro hm hmp)
  clear h hu ec hj hb hm hmp hp hl ha eh
  go_enter Tryz.func34, Tryz.ntmps34
  go_wp2_with fail
  refine (refCurrent_any y K _ _ vl _ HH.out.1 HH.out.2.2.2.1).mono ?_
  rintro e w1 ⟨rfl, hb1⟩
  rw [HH.out.2.2.1]
  have h1 := HH.out.1.below hb1
  have c0 : w1.cell? ⟨y, 0, none⟩ = some (.slice (some ⟨g, 0, none⟩) m c) := by rw [← HM.out.1]; exact (cell_of_row w1 y 0 _ _ _ h1.blk).trans rfl
  have c2 : w1.cell? ⟨y, 2, none⟩ = some (.slice ap mp cp) := by rw [← HM.out.2]; exact (cell_of_row w1 y 2 _ _ _ h1.blk).trans rfl
  have cg : w1.cell? ⟨g, j * 20, none⟩ = some (.int .i64 u.1) := (h1.th.row (i := j) (r := rtRow u) (by rw [List.getElem?_map, HH.out.2.1]; rfl)) 0 _ rfl
  have H1 := hid (And.intro h1 hb1)
  clear h1 hb1
  by_cases f : inI n 0 5 = true
  · go_wp2_with (go_at_call 61; refine (in_any _ _ _ _).mono ?_; rintro e w2 ⟨rfl, rfl⟩)
    refine (refPass_any y K _ _ vl u.1 n _ H1.out.1 HH.out.2.2.2.2.1).mono ?_
    rintro e w2 ⟨r, rfl, hix, rfl⟩
    rcases find_of_ix HH.out.2.2.2.2.2.1 hix with ⟨rfl, ef⟩ | ⟨i, p, rfl, hpi, ef, e1, e2⟩
    · have E := hid (show K.drop n = (4, K) by simp [RK.drop, f, HH.out.2.2.2.2.2.2, ef])
      clear hix ef
      go_wp2
      go_ret
      exact ⟨_, by rw [E.out]; rfl, by rw [E.out]; exact H1.out.1, Fr.of_below H1.out.2 _, fun k hk => .inl hk⟩
    · have E := hid (show K.drop n = (0, { K with passes := outQ K.passes u.1 n }) by simp [RK.drop, f, HH.out.2.2.2.2.2.2, ef])
      have O := hid (outQ_ix HH.out.2.2.2.2.2.1 hpi e1 e2)
      have hil : i < mp := by rw [← HM.out.2]; exact (List.getElem?_eq_some_iff.1 hpi).1
      have hil' : (i : Int) < (mp : Int) := by omega
      obtain ⟨gp, ea, hx⟩ := H1.out.1.pa.is_some (by rw [HM.out.2]; omega)
      clear hx
      subst ea
      have hcp : mp ≤ cp := by
        rcases H1.out.1.pa.form with ⟨h1, _⟩ | ⟨g', cap, h1, h2, _⟩
        · simp at h1
        · simp only [Value.slice.injEq] at h1
          obtain ⟨_, _, rfl⟩ := h1
          rw [List.length_map] at h2; rw [← HM.out.2]; exact h2
      have hcp' : (mp : Int) ≤ (cp : Int) := by omega
      have hicp : (i : Int) ≤ (cp : Int) := by omega
      have hmx : (mp : Int) ≤ 1000000000000 := by have := HH.out.2.2.2.2.1; have := HM.out.2; omega
      have hone : ∀ r ∈ K.passes.map qRow, ∀ u ∈ r, u.oneCell' = true := fun r hr u hu => by
        obtain ⟨q, _, rfl⟩ := List.mem_map.1 hr
        exact List.all_eq_true.1 (show (qRow q).all (·.oneCell') = true from rfl) u hu
      have HS1 : Hid (Inl w2 4 (.slice (some ⟨gp, 0, none⟩) i cp) ((K.passes.map qRow).take i)) := by
        have h := H1.out.1.pa.part hone 0 i cp (.inr (by rw [List.length_map, HM.out.2]; omega)) (by rw [List.drop_zero, List.length_take, List.length_map, HM.out.2]; omega) (by rw [List.length_map, HM.out.2]; unfold maxLen; omega)
        rw [List.drop_zero, Nat.zero_mul] at h
        exact h
      have HO := hid hone
      clear hix ef e1 e2 hpi hone
      have ly : y < w2.heap.size := (Array.getElem?_eq_some_iff.1 H1.out.1.blk).1
      have LY := hid ly
      clear ly
      go_wp2_with (first
        | (at_builtin; (refine wpList_append_n _ rfl (.tmp 30) (.tmp 36) 37 rfl 67 i2 _ 4 32 Tryz.underlying37 hi2 hx0 hx1 hx2 rfl (by decide) (.slice none 0 0) [] rfl (Sl.nil _ _ _) (some ⟨gp, 0, none⟩) i cp _ rfl HS1.out i (by rw [List.length_nil, List.length_take, List.length_map, HM.out.2]; omega) (by unfold maxLen; omega) (by omega) ?_); intro a4 c4 w4 G4; have F4 := (G4.fr (Fr.refl (fun _ => False) w2) (fun q hq' => (by simp [Value.ownBlock] at hq'))); have h4 := H1.out.1.kept F4 (fun _ _ h => h); have c24 : w4.cell? ⟨y, 2, none⟩ = some (.slice (some ⟨gp, 0, none⟩) mp cp) := (by rw [← HM.out.2]; exact (cell_of_row w4 y 2 _ _ _ h4.blk).trans rfl); have HS2 : Hid (Inl w4 4 (.slice (if cp = i + 1 then some ⟨gp, 0, none⟩ else some ⟨gp, (i + 1) * 4, none⟩) (mp - (i + 1)) (cp - (i + 1))) ((K.passes.map qRow).drop (i + 1))) := (by have h := h4.pa.after HO.out (i + 1) (by rw [List.length_map, HM.out.2]; omega) (by rw [List.length_map, HM.out.2]; exact hcp) (by rw [List.length_map, HM.out.2]; unfold maxLen; omega); rw [List.length_map, HM.out.2] at h; exact h); have H4 := hid (And.intro h4 (And.intro G4 F4)); clear h4 G4 F4)
        | (at_builtin; go_must (refine wpList_append_n _ rfl (.tmp 39) (.tmp 46) 37 rfl 67 i2 _ 4 32 Tryz.underlying37 hi2 hx0 hx1 hx2 rfl (by decide) (.slice a4 i c4) _ rfl H4.out.2.1.sl _ (mp - (i + 1)) (cp - (i + 1)) _ rfl HS2.out (mp - 1) (by rw [List.nil_append, List.length_take, List.length_drop, List.length_map, HM.out.2]; omega) (by unfold maxLen; omega) (by omega) ?_); intro a5 c5 w5 G5; have own4 : ∀ q, Value.ownBlock (.slice a4 i c4) = some q → w2.heap.size ≤ q := (fun q hq' => (H4.out.2.1.at_ q hq').elim id (fun h => (by simp [Value.ownBlock] at h))); have hb5 := (G5.old (Nat.lt_of_lt_of_le LY.out H4.out.2.2.size) (fun h => absurd (own4 _ h) (Nat.not_le.2 LY.out))).trans H4.out.1.blk; have c25 := (cell_of_row w5 y 2 _ _ _ hb5).trans (rfl : _ = some _); have f25 : w5.frozen? ⟨y, 2, none⟩ = false := frozen_of_row _ _ _ _ _ hb5; have H5 := hid (And.intro hb5 (And.intro G5 own4)); clear hb5 G5 own4))
      all_goals
        go_ret
        have own5 : ∀ q, Value.ownBlock (.slice a5 (mp - 1) c5) = some q → w2.heap.size ≤ q := fun q hq' => by
          rcases H5.out.2.1.at_ q hq' with h | h
          · exact Nat.le_trans H4.out.2.2.size h
          · exact H5.out.2.2 q h
        have F5 : Fr (fun _ => False) w2 w5 := H5.out.2.1.fr H4.out.2.2 (fun q hq' hlt => absurd (H5.out.2.2 q hq') (Nat.not_le.2 hlt))
        have F6 : Fr (fun q => q = y) w2 (w5.setCell ⟨y, 2, none⟩ (.slice a5 (mp - 1) c5)) := (show Fr (fun q => q = y) w2 w5 from F5.mono (fun _ _ h => h.elim)).setCell (p := ⟨y, 2, none⟩) (fun _ => rfl) _
        have h2 := H1.out.1
        have e3 : (outQ K.passes u.1 n).map qRow = [] ++ (K.passes.map qRow).take i ++ (K.passes.map qRow).drop (i + 1) := by
          rw [← O.out, List.map_append, List.map_take, List.map_drop, List.nil_append]
        have SP : Sl (w5.setCell ⟨y, 2, none⟩ (.slice a5 (mp - 1) c5)) 67 4 (.slice a5 (mp - 1) c5) ((outQ K.passes u.1 n).map qRow) := by
          rw [e3]
          exact H5.out.2.1.sl.kept ((Fr.refl (fun q => q = y) w5).setCell (p := ⟨y, 2, none⟩) (fun _ => rfl) _) (fun q hq' e => by have := own5 q hq'; have := LY.out; omega)
        have RA : RefAt (w5.setCell ⟨y, 2, none⟩ (.slice a5 (mp - 1) c5)) y { K with passes := outQ K.passes u.1 n } (.slice (some ⟨g, 0, none⟩) K.threads.length c) (.slice a5 (mp - 1) c5) vl :=
          ⟨heap_setCell_same w5 y 2 _ _ _ H5.out.1, h2.th.kept F6 (fun q hq' e => h2.n1 (e ▸ hq')), SP, h2.le.kept F6 (fun q hq' e => h2.n3 (e ▸ hq')), h2.n1, fun h => absurd (own5 _ h) (Nat.not_le.2 LY.out), h2.n3, fun q hq' => ⟨fun h => absurd (own5 _ h) (Nat.not_le.2 (h2.th.lt hq')), (h2.n4 q hq').2⟩, fun q hq' h => absurd (own5 _ hq') (Nat.not_le.2 (h2.le.lt h))⟩
        have FF := (Fr.of_below H1.out.2 (RefOwn y (.slice (some ⟨g, 0, none⟩) K.threads.length c) (.slice (some ⟨gp, 0, none⟩) K.passes.length cp) vl)).trans (F6.mono (fun q _ e => .inl e))
        have OW : ∀ q, Value.ownBlock (.slice a5 (mp - 1) c5) = some q → Value.ownBlock (.slice (some ⟨gp, 0, none⟩) K.passes.length cp) = some q ∨ w.heap.size ≤ q := fun q hq' => .inr (Nat.le_trans H1.out.2.size (own5 q hq'))
        first
          | exact ⟨.slice a5 (mp - 1) c5, by rw [E.out]; rfl, by rw [E.out]; exact RA, FF, OW⟩
          | exact ⟨by rw [E.out]; rfl, .slice a5 (mp - 1) c5, by rw [E.out]; exact RA, FF, OW⟩
  · have E := hid (show K.drop n = (3, K) by rw [RK.drop, if_neg f])
    have f3 : inI n 0 5 = false := by simpa using f
    clear f
    go_wp2_with (go_at_call 61; refine (in_any _ _ _ _).mono ?_; rintro e w2 ⟨rfl, rfl⟩)
    go_ret
    exact ⟨_, by rw [E.out]; rfl, by rw [E.out]; exact H1.out.1, Fr.of_below H1.out.2 _, fun k hk => .inl hk⟩
end Go.Proofs.YtgiiegppaleldaaGreatDoor

/- Lists of passes and leaves, with one out or in; the document's Unmap and Derive as functions. -/
namespace Go.Proofs.YtgiiegppaleldaaGreatDoor
open Go.RowKit

theorem apart_iff (L : List (Int × Int × Int × Int)) : Apart L ↔ L.Pairwise (fun q p => ¬ (q.1 = p.1 ∧ q.2.1 = p.2.1)) := by
  rw [List.pairwise_iff_getElem]
  constructor
  · intro h i j hi hj hij
    exact h j i _ _ hij (List.getElem?_eq_getElem hj) (List.getElem?_eq_getElem hi)
  · intro h i k p q hk hp hq
    obtain ⟨hi, rfl⟩ := List.getElem?_eq_some_iff.1 hp
    obtain ⟨hk', rfl⟩ := List.getElem?_eq_some_iff.1 hq
    exact h k i hk' hi hk

theorem outQ_apart {L : List (Int × Int × Int × Int)} (h : Apart L) (s n : Int) : Apart (outQ L s n) := by
  rw [apart_iff] at h ⊢
  exact h.filter _
theorem outQ_mem {L : List (Int × Int × Int × Int)} {s n : Int} {p : Int × Int × Int × Int} {i : Nat} (h : (outQ L s n)[i]? = some p) : ∃ j : Nat, L[j]? = some p :=
  List.getElem?_of_mem (List.mem_filter.1 (List.mem_of_getElem? h)).1
theorem outQ_len (L : List (Int × Int × Int × Int)) (s n : Int) : (outQ L s n).length ≤ L.length := List.length_filter_le _ _
theorem outQ_find (L : List (Int × Int × Int × Int)) (s n s' n' : Int) : findQ (outQ L s n) s' n' = if s = s' ∧ n = n' then none else findQ L s' n' := by
  unfold findQ outQ
  rw [List.find?_filter]
  by_cases h : s = s' ∧ n = n'
  · rw [if_pos h, List.find?_eq_none]
    intro q _
    obtain ⟨rfl, rfl⟩ := h
    cases (q.1 == s && q.2.1 == n) <;> simp
  · rw [if_neg h]
    congr 1
    funext q
    by_cases e : q.1 = s' ∧ q.2.1 = n'
    · have : ¬ (s' = s ∧ n' = n) := fun g => h ⟨g.1.symm, g.2.symm⟩
      rw [e.1, e.2]
      by_cases f : s' = s
      · have g : ¬ n' = n := fun g => this ⟨f, g⟩
        simp [g]
      · simp [f]
    · have : (q.1 == s' && q.2.1 == n') = false := by
        rw [Bool.and_eq_false_iff]
        by_cases f : q.1 = s'
        · right; simp; exact fun g => e ⟨f, g⟩
        · left; simpa using f
      simp [this]

/-- With this one in its place, or behind all. -/
def putQ : List (Int × Int × Int × Int) → Int → Int → Int → Int → List (Int × Int × Int × Int)
  | [], s, n, t, r => [(s, n, t, r)]
  | q :: L, s, n, t, r => if q.1 = s ∧ q.2.1 = n then (s, n, t, r) :: L else q :: putQ L s n t r

theorem putQ_ix {L : List (Int × Int × Int × Int)} {s n : Int} (t r : Int) : ∀ {i : Nat} {p : Int × Int × Int × Int}, Apart L → L[i]? = some p → p.1 = s → p.2.1 = n → L.set i (s, n, t, r) = putQ L s n t r := by
  induction L with
  | nil => intro i p _ h; simp at h
  | cons q L ih =>
    intro i p ha h e1 e2
    have ha' : Apart L := fun i k p q hk h1 h2 => ha (i + 1) (k + 1) p q (by omega) (by simpa using h1) (by simpa using h2)
    cases i with
    | zero =>
      simp only [List.getElem?_cons_zero, Option.some.injEq] at h
      subst h
      rw [putQ, if_pos ⟨e1, e2⟩]; rfl
    | succ i =>
      have hq : ¬ (q.1 = s ∧ q.2.1 = n) := fun hq => ha (i + 1) 0 p q (by omega) h (by simp) ⟨hq.1.trans e1.symm, hq.2.trans e2.symm⟩
      rw [putQ, if_neg hq, ← ih (i := i) (p := p) ha' (by simpa using h) e1 e2]; rfl
theorem putQ_new {L : List (Int × Int × Int × Int)} {s n : Int} (t r : Int) (h : findQ L s n = none) : L ++ [(s, n, t, r)] = putQ L s n t r := by
  induction L with
  | nil => rfl
  | cons q L ih =>
    unfold findQ at h ih
    rw [List.find?_cons] at h
    by_cases e : q.1 = s ∧ q.2.1 = n
    · simp [e.1, e.2] at h
    · have : (q.1 == s && q.2.1 == n) = false := by
        rw [Bool.and_eq_false_iff]
        by_cases f : q.1 = s
        · right; simp; exact fun g => e ⟨f, g⟩
        · left; simpa using f
      rw [this] at h
      rw [putQ, if_neg e, ← ih h]; rfl
theorem putQ_mem {L : List (Int × Int × Int × Int)} {s n t r : Int} {p : Int × Int × Int × Int} (h : p ∈ putQ L s n t r) : p = (s, n, t, r) ∨ p ∈ L := by
  induction L with
  | nil => simp [putQ] at h; exact .inl h
  | cons q L ih =>
    rw [putQ] at h
    split at h
    · rcases List.mem_cons.1 h with h | h
      · exact .inl h
      · exact .inr (List.mem_cons_of_mem _ h)
    · rcases List.mem_cons.1 h with h | h
      · exact .inr (by rw [h]; exact List.mem_cons_self ..)
      · rcases ih h with h | h
        · exact .inl h
        · exact .inr (List.mem_cons_of_mem _ h)
theorem putQ_len (L : List (Int × Int × Int × Int)) (s n t r : Int) : (putQ L s n t r).length ≤ L.length + 1 := by
  induction L with
  | nil => simp [putQ]
  | cons q L ih =>
    rw [putQ]; split <;> simp; exact ih
theorem putQ_apart {L : List (Int × Int × Int × Int)} (h : Apart L) (s n t r : Int) : Apart (putQ L s n t r) := by
  rw [apart_iff] at h ⊢
  induction L with
  | nil => simp [putQ]
  | cons q L ih =>
    rw [List.pairwise_cons] at h
    rw [putQ]
    split
    · rename_i e
      rw [List.pairwise_cons]
      refine ⟨fun p hp g => h.1 p hp ⟨e.1.trans g.1, e.2.trans g.2⟩, h.2⟩
    · rename_i e
      rw [List.pairwise_cons]
      refine ⟨fun p hp => ?_, ih h.2⟩
      rcases putQ_mem hp with rfl | hp
      · exact e
      · exact h.1 p hp
theorem eq2_false {a b s n : Int} (h : ¬ (a = s ∧ b = n)) : (a == s && b == n) = false := by
  rw [Bool.and_eq_false_iff]
  by_cases f : a = s
  · right; simp; exact fun g => h ⟨f, g⟩
  · left; simpa using f
theorem putQ_find (L : List (Int × Int × Int × Int)) (s n t r s' n' : Int) : findQ (putQ L s n t r) s' n' = if s = s' ∧ n = n' then some (s, n, t, r) else findQ L s' n' := by
  induction L with
  | nil =>
    unfold findQ
    by_cases h : s = s' ∧ n = n'
    · rw [if_pos h]; simp [putQ, h.1, h.2]
    · rw [if_neg h]
      simp only [putQ, List.find?_cons, List.find?_nil, eq2_false h]
  | cons q L ih =>
    unfold findQ at ih ⊢
    rw [putQ]
    by_cases e : q.1 = s ∧ q.2.1 = n
    · rw [if_pos e, List.find?_cons, List.find?_cons, e.1, e.2]
      by_cases h : s = s' ∧ n = n'
      · rw [if_pos h]; simp [h.1, h.2]
      · rw [if_neg h]
        dsimp only
        rw [eq2_false h]
    · rw [if_neg e, List.find?_cons, List.find?_cons, ih]
      by_cases h : s = s' ∧ n = n'
      · rw [if_pos h, if_pos h, eq2_false (by rw [← h.1, ← h.2]; exact e)]
      · rw [if_neg h, if_neg h]

theorem outQ_none {L : List (Int × Int × Int × Int)} {s n : Int} (h : findQ L s n = none) : outQ L s n = L := by
  unfold outQ
  rw [List.filter_eq_self]
  intro p hp
  have := List.find?_eq_none.1 h p hp
  rw [Bool.not_eq_true] at this
  rw [this]; rfl

def RK.unmap (K : RK) (pg : Int) (own : Bool) : Int × RK :=
  if inI pg 0 5 = true then
    match findQ K.leaves K.home pg with
    | some _ => (0, if own = true then { K with leaves := outQ K.leaves K.home pg } else K)
    | none => (8, K)
  else (3, K)
def RK.derive (K : RK) (a b r : Int) : Int × RK :=
  if inI a 0 5 = true ∧ inI b 0 5 = true ∧ inI r 1 3 = true then
    match findQ K.passes K.home a with
    | some p => if hasRt p.2.2.2 r = true then (0, { K with passes := putQ K.passes K.home b p.2.2.1 r }) else (4, K)
    | none => (4, K)
  else (3, K)
end Go.Proofs.YtgiiegppaleldaaGreatDoor

/- The document's gone, Unmap. -/
namespace Go.Proofs.YtgiiegppaleldaaGreatDoor
open Go.RowKit

def agN : Value → Nat
  | .bool true => 1
  | _ => 0
def RK.gone (K : RK) (s n : Int) (own : Bool) : RK := if own = true then { K with leaves := outQ K.leaves s n } else K

set_option maxRecDepth 100000 in
set_option maxHeartbeats 8000000 in
theorem refGone_any (y : Nat) (K : RK) (vt vp vl : Value) (s n : Int) (own : Bool) (w : World) (h : RefAt w y K vt vp vl) (hl : K.leaves.length ≤ 1000000000000) (ha : Apart K.leaves) (hs0 : 0 ≤ s) :
    Calls Tryz.prog 63 #[.pointer (some ⟨y, 0, none⟩), .int .i64 s, .int .i64 n, .bool own] w fun e w' => ∃ vl', e = .returned (.tuple #[]) ∧ RefAt w' y (K.gone s n own) vt vp vl' ∧ Fr (RefOwn y vt vp vl) w w' ∧ ∀ k, vl'.ownBlock = some k → vl.ownBlock = some k ∨ w.heap.size ≤ k := by
  obtain ⟨ap, cp, el⟩ := h.le.slice
  rw [List.length_map] at el
  subst el
  obtain ⟨i2, hi2, hx0, hx1, hx2⟩ := info_parts Tryz.infoN118
  obtain ⟨mp, hmp⟩ : ∃ mp, K.leaves.length = mp := ⟨_, rfl⟩
  have ly : y < w.heap.size := (Array.getElem?_eq_some_iff.1 h.blk).1
  have hmx : (mp : Int) ≤ 1000000000000 := by omega
  have dn : ((-1 : Int) == s) = false := by simp; omega
  have HH := hid (And.intro h (And.intro hl ha))
  have HM := hid hmp
  clear h hl ha hmp
  go_enter Tryz.func63, Tryz.ntmps63
  go_wp2
  go_loopw [8] (fun ag wr => (ag = .bool true ∨ ag = .bool false) ∧ Hid (Below w.heap.size w wr)) (fun ag _ => agN ag)
  case atStart => exact ⟨.inl rfl, Below.refl _ _⟩
  case round =>
    obtain ⟨hag, HW⟩ := hrel
    rename World => wa
    rcases hag with rfl | rfl
    · go_wp2
      go_loopw [8, 9] (fun ag i wr => ∃ k : Nat, ag = .bool false ∧ k ≤ mp ∧ i = .int .i64 k ∧ Hid (Below w.heap.size w wr)) (fun _ i _ => mp - (intOf i).toNat)
      case atStart => exact ⟨0, rfl, Nat.zero_le _, rfl, HW⟩
      case round =>
        obtain ⟨k, rfl, hk, rfl, HV⟩ := hrel
        have hr := HH.out.1.below HV.out
        have c3 : wr.cell? ⟨y, 3, none⟩ = some (.slice ap mp cp) := by rw [← HM.out]; exact (cell_of_row wr y 3 _ _ _ hr.blk).trans rfl
        have lyr : y < wr.heap.size := Nat.lt_of_lt_of_le ly HV.out.size
        by_cases hlt : k < mp
        · obtain ⟨p, hp⟩ : ∃ p, K.leaves[k]? = some p := ⟨_, List.getElem?_eq_getElem (by rw [HM.out]; exact hlt)⟩
          obtain ⟨gp, ea, hx⟩ := hr.le.is_some (by rw [HM.out]; omega)
          clear hx
          subst ea
          have R1 := hid (hr.le.row (i := k) (r := [.int .i64 p.1, .int .i64 p.2.1, .int .i64 p.2.2.1, .int .i64 p.2.2.2, .int .i64 (-1), .int .i64 (-1)]) (by rw [List.getElem?_map, hp]; rfl))
          have lg : gp < wr.heap.size := hr.le.lt rfl
          have hlt' : (k : Int) < (mp : Int) := by omega
          clear hr hp
          go_wp2_with (first | (with_reducible (show wpList _ _ _ (⟨_, .load 118 _, _, _, _, none⟩ :: _) _ _); go_must (refine wpList_load_mid rfl 118 _ rfl gp (k * 6) rfl _ _ R1.out Tryz.underlying118 rfl (by kernel_rfl) ?_)) | (with_reducible (show wpList _ _ _ (⟨_, .store 118 _ _, _, _, _, none⟩ :: _) _ _); go_must (refine wpList_store_new rfl 118 _ _ rfl wr _ #[.int .i64 p.1, .int .i64 p.2.1, .int .i64 p.2.2.1, .int .i64 p.2.2.2, .int .i64 (-1), .int .i64 (-1)] 118 rfl rfl (by kernel_rfl) rfl ?_ ?_); (simp [Value.oneCell'])))
          exact ⟨⟨k + 1, rfl, by omega, by go_num, HV.out.alloc HV.out.size _⟩, by simp [intOf]; omega⟩
        · clear hr
          have hge : decide ((k : Int) < (mp : Int)) = false := by simp; omega
          go_wp2
          exact ⟨⟨.inr rfl, HV⟩, by simp [agN]⟩
    · have hr := hid (HH.out.1.below HW.out)
      have c3 : wa.cell? ⟨y, 3, none⟩ = some (.slice ap mp cp) := by rw [← HM.out]; exact (cell_of_row wa y 3 _ _ _ hr.out.blk).trans rfl
      go_wp2_with fail
      refine (refLeaf_any y K vt vp _ s n _ hr.out HH.out.2.1).mono ?_
      rintro e w2 ⟨q, rfl, hix, rfl⟩
      cases own with
      | false =>
        clear hix
        go_wp2
        go_end0
        exact ⟨_, rfl, hr.out, Fr.of_below HW.out _, fun k hk => .inl hk⟩
      | true =>
        rcases find_of_ix HH.out.2.2 hix with ⟨rfl, ef⟩ | ⟨i, p, rfl, hpi, ef, e1, e2⟩
        · have E := hid (show K.gone s n true = K by simp [RK.gone, outQ_none ef])
          clear hix ef
          go_wp2
          go_end0
          exact ⟨_, rfl, by rw [E.out]; exact hr.out, Fr.of_below HW.out _, fun k hk => .inl hk⟩
        · have E := hid (show K.gone s n true = { K with leaves := outQ K.leaves s n } from rfl)
          have O := hid (outQ_ix HH.out.2.2 hpi e1 e2)
          have hil : i < mp := by rw [← HM.out]; exact (List.getElem?_eq_some_iff.1 hpi).1
          have hil' : (i : Int) < (mp : Int) := by omega
          obtain ⟨gp, ea, hx⟩ := hr.out.le.is_some (by rw [HM.out]; omega)
          clear hx
          subst ea
          have hcp : mp ≤ cp := by
            rcases hr.out.le.form with ⟨h1, _⟩ | ⟨g', cap, h1, h2, _⟩
            · simp at h1
            · simp only [Value.slice.injEq] at h1
              obtain ⟨_, _, rfl⟩ := h1
              rw [List.length_map] at h2; rw [← HM.out]; exact h2
          have hcp' : (mp : Int) ≤ (cp : Int) := by omega
          have hicp : (i : Int) ≤ (cp : Int) := by omega
          have hone : ∀ r ∈ K.leaves.map lRow, ∀ u ∈ r, u.oneCell' = true := fun r hr u hu => by
            obtain ⟨q, _, rfl⟩ := List.mem_map.1 hr
            exact List.all_eq_true.1 (show (lRow q).all (·.oneCell') = true from rfl) u hu
          have HS1 : Hid (Inl w2 6 (.slice (some ⟨gp, 0, none⟩) i cp) ((K.leaves.map lRow).take i)) := by
            have h := hr.out.le.part hone 0 i cp (.inr (by rw [List.length_map, HM.out]; omega)) (by rw [List.drop_zero, List.length_take, List.length_map, HM.out]; omega) (by rw [List.length_map, HM.out]; unfold maxLen; omega)
            rw [List.drop_zero, Nat.zero_mul] at h
            exact h
          have HO := hid hone
          clear hix ef e1 e2 hpi hone
          have LY : Hid (y < w2.heap.size) := (Array.getElem?_eq_some_iff.1 hr.out.blk).1
          go_wp2_with (first
            | (at_builtin; (refine wpList_append_n _ rfl (.tmp 59) (.tmp 65) 111 rfl 118 i2 _ 6 48 Tryz.underlying111 hi2 hx0 hx1 hx2 rfl (by decide) (.slice none 0 0) [] rfl (Sl.nil _ _ _) (some ⟨gp, 0, none⟩) i cp _ rfl HS1.out i (by rw [List.length_nil, List.length_take, List.length_map, HM.out]; omega) (by unfold maxLen; omega) (by omega) ?_); intro a4 c4 w4 G4; have F4 := (G4.fr (Fr.refl (fun _ => False) w2) (fun q hq' => (by simp [Value.ownBlock] at hq'))); have h4 := hr.out.kept F4 (fun _ _ h => h); have c24 : w4.cell? ⟨y, 3, none⟩ = some (.slice (some ⟨gp, 0, none⟩) mp cp) := (by rw [← HM.out]; exact (cell_of_row w4 y 3 _ _ _ h4.blk).trans rfl); have HS2 : Hid (Inl w4 6 (.slice (if cp = i + 1 then some ⟨gp, 0, none⟩ else some ⟨gp, (i + 1) * 6, none⟩) (mp - (i + 1)) (cp - (i + 1))) ((K.leaves.map lRow).drop (i + 1))) := (by have h := h4.le.after HO.out (i + 1) (by rw [List.length_map, HM.out]; omega) (by rw [List.length_map, HM.out]; exact hcp) (by rw [List.length_map, HM.out]; unfold maxLen; omega); rw [List.length_map, HM.out] at h; exact h); have H4 := hid (And.intro h4 (And.intro G4 F4)); clear h4 G4 F4)
            | (at_builtin; go_must (refine wpList_append_n _ rfl (.tmp 68) (.tmp 75) 111 rfl 118 i2 _ 6 48 Tryz.underlying111 hi2 hx0 hx1 hx2 rfl (by decide) (.slice a4 i c4) _ rfl H4.out.2.1.sl _ (mp - (i + 1)) (cp - (i + 1)) _ rfl HS2.out (mp - 1) (by rw [List.nil_append, List.length_take, List.length_drop, List.length_map, HM.out]; omega) (by unfold maxLen; omega) (by omega) ?_); intro a5 c5 w5 G5; have own4 : ∀ q, Value.ownBlock (.slice a4 i c4) = some q → w2.heap.size ≤ q := (fun q hq' => (H4.out.2.1.at_ q hq').elim id (fun h => (by simp [Value.ownBlock] at h))); have hb5 := (G5.old (Nat.lt_of_lt_of_le LY.out H4.out.2.2.size) (fun h => absurd (own4 _ h) (Nat.not_le.2 LY.out))).trans H4.out.1.blk; have c25 := (cell_of_row w5 y 3 _ _ _ hb5).trans (rfl : _ = some _); have f25 : w5.frozen? ⟨y, 3, none⟩ = false := frozen_of_row _ _ _ _ _ hb5; have H5 := hid (And.intro hb5 (And.intro G5 own4)); clear hb5 G5 own4))
          all_goals
            go_end0
            have own5 : ∀ q, Value.ownBlock (.slice a5 (mp - 1) c5) = some q → w2.heap.size ≤ q := fun q hq' => by
              rcases H5.out.2.1.at_ q hq' with h | h
              · exact Nat.le_trans H4.out.2.2.size h
              · exact H5.out.2.2 q h
            have F5 : Fr (fun _ => False) w2 w5 := H5.out.2.1.fr H4.out.2.2 (fun q hq' hlt => absurd (H5.out.2.2 q hq') (Nat.not_le.2 hlt))
            have F6 : Fr (fun q => q = y) w2 (w5.setCell ⟨y, 3, none⟩ (.slice a5 (mp - 1) c5)) := (show Fr (fun q => q = y) w2 w5 from F5.mono (fun _ _ h => h.elim)).setCell (p := ⟨y, 3, none⟩) (fun _ => rfl) _
            have h2 := hr.out
            have e3 : (outQ K.leaves s n).map lRow = [] ++ (K.leaves.map lRow).take i ++ (K.leaves.map lRow).drop (i + 1) := by
              rw [← O.out, List.map_append, List.map_take, List.map_drop, List.nil_append]
            have SP : Sl (w5.setCell ⟨y, 3, none⟩ (.slice a5 (mp - 1) c5)) 118 6 (.slice a5 (mp - 1) c5) ((outQ K.leaves s n).map lRow) := by
              rw [e3]
              exact H5.out.2.1.sl.kept ((Fr.refl (fun q => q = y) w5).setCell (p := ⟨y, 3, none⟩) (fun _ => rfl) _) (fun q hq' e => by have := own5 q hq'; have := LY.out; omega)
            have RA : RefAt (w5.setCell ⟨y, 3, none⟩ (.slice a5 (mp - 1) c5)) y { K with leaves := outQ K.leaves s n } vt vp (.slice a5 (mp - 1) c5) :=
              ⟨heap_setCell_same w5 y 3 _ _ _ H5.out.1, h2.th.kept F6 (fun q hq' e => h2.n1 (e ▸ hq')), h2.pa.kept F6 (fun q hq' e => h2.n2 (e ▸ hq')), SP, h2.n1, h2.n2, fun h => absurd (own5 _ h) (Nat.not_le.2 LY.out), fun q hq' => ⟨(h2.n4 q hq').1, fun h => absurd (own5 _ h) (Nat.not_le.2 (h2.th.lt hq'))⟩, fun q hq' h => absurd (own5 _ h) (Nat.not_le.2 (h2.pa.lt hq'))⟩
            have FF := (Fr.of_below HW.out (RefOwn y vt vp (.slice (some ⟨gp, 0, none⟩) K.leaves.length cp))).trans (F6.mono (fun q _ e => .inl e))
            have OW : ∀ q, Value.ownBlock (.slice a5 (mp - 1) c5) = some q → Value.ownBlock (.slice (some ⟨gp, 0, none⟩) K.leaves.length cp) = some q ∨ w.heap.size ≤ q := fun q hq' => .inr (Nat.le_trans HW.out.size (own5 q hq'))
            first
              | exact ⟨.slice a5 (mp - 1) c5, rfl, by rw [E.out]; exact RA, FF, OW⟩
              | exact ⟨rfl, .slice a5 (mp - 1) c5, by rw [E.out]; exact RA, FF, OW⟩

set_option maxRecDepth 100000 in
set_option maxHeartbeats 8000000 in
theorem refUnmap_any (y : Nat) (K : RK) (vt vp vl : Value) (n : Int) (own : Bool) (w : World) (h : RefAt w y K vt vp vl) (hb : K.threads.length ≤ 6) (hp : 0 < K.threads.length) (hl : K.leaves.length ≤ 1000000000000) (ha : Apart K.leaves) (h0 : 0 ≤ K.home) :
    Calls Tryz.prog 30 #[.pointer (some ⟨y, 0, none⟩), .int .i64 n, .bool own] w fun e w' => ∃ vl', e = .returned (.int .i64 (K.unmap n own).1) ∧ RefAt w' y (K.unmap n own).2 vt vp vl' ∧ Fr (RefOwn y vt vp vl) w w' ∧ ∀ k, vl'.ownBlock = some k → vl.ownBlock = some k ∨ w.heap.size ≤ k := by
  obtain ⟨j, u, ec, hj, hu⟩ : ∃ (j : Nat) (u : Int × Int × Int × Int), curTo K.threads K.threads.length = j ∧ j < K.threads.length ∧ K.threads[j]? = some u := by
    rcases curTo_inv K.threads _ (Nat.le_refl _) with ⟨h0, _⟩ | h1
    · omega
    · exact h1
  have eh : K.home = u.1 := by unfold RK.home; rw [ec, Int.toNat_natCast, hu]
  obtain ⟨a, c, ev⟩ := h.th.slice
  rw [List.length_map] at ev
  subst ev
  obtain ⟨g, ea, hx⟩ := h.th.is_some hp
  clear hx
  subst ea
  obtain ⟨m, hm⟩ : ∃ m, K.threads.length = m := ⟨_, rfl⟩
  have jm : (j : Int) < (m : Int) := by omega
  have jn : j < m := by omega
  have HH := hid (And.intro h (And.intro hu (And.intro ec (And.intro hb (And.intro hl (And.intro ha (And.intro eh h0)))))))
  have HM := hid hm
  clear h hu ec hj hb hm hp hl ha eh h0
  go_enter Tryz.func30, Tryz.ntmps30
  go_wp2_with fail
  refine (refCurrent_any y K _ vp vl _ HH.out.1 HH.out.2.2.2.1).mono ?_
  rintro e w1 ⟨rfl, hb1⟩
  rw [HH.out.2.2.1]
  have h1 := HH.out.1.below hb1
  have c0 : w1.cell? ⟨y, 0, none⟩ = some (.slice (some ⟨g, 0, none⟩) m c) := by rw [← HM.out]; exact (cell_of_row w1 y 0 _ _ _ h1.blk).trans rfl
  have cg : w1.cell? ⟨g, j * 20, none⟩ = some (.int .i64 u.1) := (h1.th.row (i := j) (r := rtRow u) (by rw [List.getElem?_map, HH.out.2.1]; rfl)) 0 _ rfl
  have H1 := hid (And.intro h1 hb1)
  clear h1 hb1
  by_cases f : inI n 0 5 = true
  · go_wp2_with (go_at_call 61; refine (in_any _ _ _ _).mono ?_; rintro e w2 ⟨rfl, rfl⟩)
    refine (refLeaf_any y K _ vp vl u.1 n _ H1.out.1 HH.out.2.2.2.2.1).mono ?_
    rintro e w2 ⟨r, rfl, hix, rfl⟩
    rcases find_of_ix HH.out.2.2.2.2.2.1 hix with ⟨rfl, ef⟩ | ⟨i, p, rfl, hpi, ef, e1, e2⟩
    · have E := hid (show K.unmap n own = (8, K) by simp [RK.unmap, f, HH.out.2.2.2.2.2.2.1, ef])
      clear hix ef
      go_wp2
      go_ret
      exact ⟨_, by rw [E.out]; rfl, by rw [E.out]; exact H1.out.1, Fr.of_below H1.out.2 _, fun k hk => .inl hk⟩
    · have E := hid (show K.unmap n own = (0, K.gone u.1 n own) by simp [RK.unmap, RK.gone, f, HH.out.2.2.2.2.2.2.1, ef])
      have dz : decide ((i : Int) < 0) = false := by simp
      clear hix ef e1 e2 hpi
      go_wp2_with fail
      refine (refGone_any y K _ vp vl u.1 n own _ H1.out.1 HH.out.2.2.2.2.1 HH.out.2.2.2.2.2.1 (by rw [← HH.out.2.2.2.2.2.2.1]; exact HH.out.2.2.2.2.2.2.2)).mono ?_
      rintro e w3 ⟨vl', rfl, RA, F3, O3⟩
      have H3 := hid (And.intro RA (And.intro F3 O3))
      clear RA F3 O3
      go_wp2
      go_ret
      exact ⟨vl', by rw [E.out]; rfl, by rw [E.out]; exact H3.out.1, (Fr.of_below H1.out.2 _).trans H3.out.2.1, fun k hk => (H3.out.2.2 k hk).imp id (fun h => Nat.le_trans H1.out.2.size h)⟩
  · have E := hid (show K.unmap n own = (3, K) by rw [RK.unmap, if_neg f])
    have f3 : inI n 0 5 = false := by simpa using f
    clear f
    go_wp2_with (go_at_call 61; refine (in_any _ _ _ _).mono ?_; rintro e w2 ⟨rfl, rfl⟩)
    go_ret
    exact ⟨_, by rw [E.out]; rfl, by rw [E.out]; exact H1.out.1, Fr.of_below H1.out.2 _, fun k hk => .inl hk⟩
end Go.Proofs.YtgiiegppaleldaaGreatDoor

/- The document's Derive. -/
namespace Go.Proofs.YtgiiegppaleldaaGreatDoor
open Go.RowKit

theorem bits_ne {r a : Int} (h : r = 1 ∨ r = 2 ∨ r = 3) (ha : a = 1 ∨ a = 2 ∨ a = 3) : (bits .and .i64 r a != a) = !hasRt r a := by
  rcases h with rfl | rfl | rfl <;> rcases ha with rfl | rfl | rfl <;> rfl

theorem Sl.put4 {w : World} {e : TypeId} {g n cap : Nat} {rows : List (List Value)} (h : Sl w e 4 (.slice (some ⟨g, 0, none⟩) n cap) rows) (i : Nat) (hi : i < rows.length) (a0 a1 a2 a3 : Value) :
    Sl ((((w.setCell ⟨g, i * 4, none⟩ a0).setCell ⟨g, i * 4 + 1, none⟩ a1).setCell ⟨g, i * 4 + 2, none⟩ a2).setCell ⟨g, i * 4 + 3, none⟩ a3) e 4 (.slice (some ⟨g, 0, none⟩) n cap) (rows.set i [a0, a1, a2, a3]) := by
  have h0 := h.set i 0 a0 hi (by omega)
  have h1 := h0.set i 1 a1 (by simpa using hi) (by omega)
  have h2 := h1.set i 2 a2 (by simpa using hi) (by omega)
  have h3 := h2.set i 3 a3 (by simpa using hi) (by omega)
  have hl := h.len rows[i] (List.getElem_mem hi)
  simp only [List.getElem_set_self, List.set_set, Nat.add_zero] at h3
  have e : (((rows[i].set 0 a0).set 1 a1).set 2 a2).set 3 a3 = [a0, a1, a2, a3] := by
    match hr : rows[i], hl with
    | [_, _, _, _], _ => rfl
  rw [e] at h3
  exact h3

set_option maxRecDepth 100000 in
set_option maxHeartbeats 8000000 in
theorem refDerive_any (y : Nat) (K : RK) (vt vp vl : Value) (a b r : Int) (w : World) (h : RefAt w y K vt vp vl) (hb : K.threads.length ≤ 6) (hp : 0 < K.threads.length) (hl : K.passes.length ≤ 1000000000000) (ha : Apart K.passes) (hr : ∀ (i : Nat) p, K.passes[i]? = some p → 1 ≤ p.2.2.2 ∧ p.2.2.2 ≤ 3) :
    Calls Tryz.prog 32 #[.pointer (some ⟨y, 0, none⟩), .int .i64 a, .int .i64 b, .int .i64 r] w fun e w' => ∃ vp', e = .returned (.int .i64 (K.derive a b r).1) ∧ RefAt w' y (K.derive a b r).2 vt vp' vl ∧ Fr (RefOwn y vt vp vl) w w' ∧ ∀ k, vp'.ownBlock = some k → vp.ownBlock = some k ∨ w.heap.size ≤ k := by
  obtain ⟨j, u, ec, hj, hu⟩ : ∃ (j : Nat) (u : Int × Int × Int × Int), curTo K.threads K.threads.length = j ∧ j < K.threads.length ∧ K.threads[j]? = some u := by
    rcases curTo_inv K.threads _ (Nat.le_refl _) with ⟨h0, _⟩ | h1
    · omega
    · exact h1
  have eh : K.home = u.1 := by unfold RK.home; rw [ec, Int.toNat_natCast, hu]
  obtain ⟨at_, c, ev⟩ := h.th.slice
  rw [List.length_map] at ev
  subst ev
  obtain ⟨g, ea, hx⟩ := h.th.is_some hp
  clear hx
  subst ea
  obtain ⟨ap, cp, el⟩ := h.pa.slice
  rw [List.length_map] at el
  subst el
  obtain ⟨i2, hi2, hx0, hx1, hx2⟩ := info_parts Tryz.infoN67
  obtain ⟨m, hm⟩ : ∃ m, K.threads.length = m := ⟨_, rfl⟩
  obtain ⟨mp, hmp⟩ : ∃ mp, K.passes.length = mp := ⟨_, rfl⟩
  have jm : (j : Int) < (m : Int) := by omega
  have jn : j < m := by omega
  have HH := hid (And.intro h (And.intro hu (And.intro ec (And.intro hb (And.intro hl (And.intro ha (And.intro eh hr)))))))
  have HM := hid (And.intro hm hmp)
  clear h hu ec hj hb hm hmp hp hl ha eh hr
  go_enter Tryz.func32, Tryz.ntmps32
  go_wp2_with fail
  refine (refCurrent_any y K _ _ vl _ HH.out.1 HH.out.2.2.2.1).mono ?_
  rintro e w1 ⟨rfl, hb1⟩
  rw [HH.out.2.2.1]
  have h1 := HH.out.1.below hb1
  have c0 : w1.cell? ⟨y, 0, none⟩ = some (.slice (some ⟨g, 0, none⟩) m c) := by rw [← HM.out.1]; exact (cell_of_row w1 y 0 _ _ _ h1.blk).trans rfl
  have c2 : w1.cell? ⟨y, 2, none⟩ = some (.slice ap mp cp) := by rw [← HM.out.2]; exact (cell_of_row w1 y 2 _ _ _ h1.blk).trans rfl
  have cg : w1.cell? ⟨g, j * 20, none⟩ = some (.int .i64 u.1) := (h1.th.row (i := j) (r := rtRow u) (by rw [List.getElem?_map, HH.out.2.1]; rfl)) 0 _ rfl
  have ly : y < w1.heap.size := (Array.getElem?_eq_some_iff.1 h1.blk).1
  have H1 := hid (And.intro h1 hb1)
  clear h1 hb1
  by_cases f : inI a 0 5 = true ∧ inI b 0 5 = true ∧ inI r 1 3 = true
  · obtain ⟨f1, f2, f3⟩ := f
    go_wp2_with (go_at_call 61; refine (in_any _ _ _ _).mono ?_; rintro e w2 ⟨rfl, rfl⟩)
    refine (refPass_any y K _ _ vl u.1 a _ H1.out.1 HH.out.2.2.2.2.1).mono ?_
    rintro e w2 ⟨q, rfl, hix, rfl⟩
    rcases find_of_ix HH.out.2.2.2.2.2.1 hix with ⟨rfl, ef⟩ | ⟨i, p, rfl, hpi, ef, e1, e2⟩
    · have E := hid (show K.derive a b r = (4, K) by simp [RK.derive, f1, f2, f3, HH.out.2.2.2.2.2.2.1, ef])
      clear hix ef
      go_wp2
      go_ret
      exact ⟨_, by rw [E.out]; rfl, by rw [E.out]; exact H1.out.1, Fr.of_below H1.out.2 _, fun k hk => .inl hk⟩
    · have hri := HH.out.2.2.2.2.2.2.2 i p hpi
      have hil : i < mp := by rw [← HM.out.2]; exact (List.getElem?_eq_some_iff.1 hpi).1
      have hil' : (i : Int) < (mp : Int) := by omega
      obtain ⟨gp, ea, hx⟩ := H1.out.1.pa.is_some (by rw [HM.out.2]; omega)
      clear hx
      subst ea
      have r1 := H1.out.1.pa.row (i := i) (r := qRow p) (by rw [List.getElem?_map, hpi]; rfl)
      have l2 : w2.cell? ⟨gp, i * 4 + 2, none⟩ = some (.int .i64 p.2.2.1) := r1 2 _ rfl
      have l3 : w2.cell? ⟨gp, i * 4 + 3, none⟩ = some (.int .i64 p.2.2.2) := r1 3 _ rfl
      have i3 := inI_true.1 f3
      have hbt := bits_ne (show p.2.2.2 = 1 ∨ p.2.2.2 = 2 ∨ p.2.2.2 = 3 by omega) (show r = 1 ∨ r = 2 ∨ r = 3 by omega)
      have lgp : gp < w2.heap.size := H1.out.1.pa.lt rfl
      cases hh : hasRt p.2.2.2 r with
      | false =>
        have E := hid (show K.derive a b r = (4, K) by simp [RK.derive, f1, f2, f3, HH.out.2.2.2.2.2.2.1, ef, hh])
        rw [hh] at hbt
        simp only [Bool.not_false] at hbt
        clear hix ef e1 e2 hpi hri r1 i3 hh
        go_wp2
        go_ret
        exact ⟨_, by rw [E.out]; rfl, by rw [E.out]; exact H1.out.1, Fr.of_below H1.out.2 _, fun k hk => .inl hk⟩
      | true =>
        have E0 : K.derive a b r = (0, { K with passes := putQ K.passes u.1 b p.2.2.1 r }) := by simp [RK.derive, f1, f2, f3, HH.out.2.2.2.2.2.2.1, ef, hh]
        have E := hid E0
        rw [hh] at hbt
        simp only [Bool.not_true] at hbt
        clear hix ef e1 e2 hpi hri r1 i3 hh E0
        go_wp2_with fail
        have BX : Below w2.heap.size w2 (w2.alloc (.cells #[.int .i64 u.1, .int .i64 b, .int .i64 p.2.2.1, .int .i64 r] 67)) := (Below.refl _ w2).alloc (Nat.le_refl _) _
        have H3 := hid (And.intro (H1.out.1.below BX) BX)
        have xb := heap_alloc_new w2 (.cells #[.int .i64 u.1, .int .i64 b, .int .i64 p.2.2.1, .int .i64 r] 67)
        have lw3 : w2.heap.size < (w2.alloc (.cells #[.int .i64 u.1, .int .i64 b, .int .i64 p.2.2.1, .int .i64 r] 67)).heap.size := by simp
        generalize hw3 : w2.alloc (.cells #[.int .i64 u.1, .int .i64 b, .int .i64 p.2.2.1, .int .i64 r] 67) = w3 at *
        have x0 : w3.cell? ⟨w2.heap.size, 0, none⟩ = some (.int .i64 u.1) := (cell_of_row w3 _ 0 _ _ _ xb).trans rfl
        have x1 : w3.cell? ⟨w2.heap.size, 1, none⟩ = some (.int .i64 b) := (cell_of_row w3 _ 1 _ _ _ xb).trans rfl
        have x2 : w3.cell? ⟨w2.heap.size, 2, none⟩ = some (.int .i64 p.2.2.1) := (cell_of_row w3 _ 2 _ _ _ xb).trans rfl
        have x3 : w3.cell? ⟨w2.heap.size, 3, none⟩ = some (.int .i64 r) := (cell_of_row w3 _ 3 _ _ _ xb).trans rfl
        refine (refPass_any y K _ _ vl u.1 b _ H3.out.1 HH.out.2.2.2.2.1).mono ?_
        rintro e w4 ⟨q, rfl, hix, rfl⟩
        have c2' : w4.cell? ⟨y, 2, none⟩ = some (.slice (some ⟨gp, 0, none⟩) mp cp) := by rw [← HM.out.2]; exact (cell_of_row w4 y 2 _ _ _ H3.out.1.blk).trans rfl
        have ly4 : y < w4.heap.size := Nat.lt_of_lt_of_le ly H3.out.2.size
        have HX := hid (And.intro xb hw3)
        clear c0 c2 cg l2 l3 xb hw3 BX
        rcases find_of_ix HH.out.2.2.2.2.2.1 hix with ⟨rfl, ef⟩ | ⟨i2', p2, rfl, hpi2, ef, e1, e2⟩
        · have O := hid (putQ_new p.2.2.1 r ef)
          have h2 := H3.out.1
          have hmx : mp ≤ 1000000000000 := by have := HH.out.2.2.2.2.1; have := HM.out.2; omega
          have HS : Hid (Sl w4 67 4 (.slice (some ⟨gp, 0, none⟩) mp cp) (K.passes.map qRow)) := by have := h2.pa; rw [HM.out.2] at this; exact this
          have hRl : Hid ((K.passes.map qRow).length = mp) := by have := HM.out.2; simpa [Hid] using this
          have hgy : gp ≠ y := fun e => h2.n2 (by rw [e]; rfl)
          generalize hR : K.passes.map qRow = R at HS hRl
          have HR := hid hR
          clear hix ef h2 hR
          go_wp2_with fail
          go_region_law (refine step_append_sl _ rfl (.tmp 94) (.tmp 96) 37 rfl 67 i2 _ 4 32 Tryz.underlying37 hi2 hx0 hx1 hx2 rfl (by decide) (.slice (some ⟨gp, 0, none⟩) mp cp) R (by simp [Act.eval]) ((HS.out.alloc _).drew) ⟨w4.heap.size, 0, none⟩ 1 1 [[.int .i64 u.1, .int .i64 b, .int .i64 p.2.2.1, .int .i64 r]] (by simp [Act.eval]) rfl (by decide) (by simp) (fun j v h => cell_news w4 #[.int .i64 u.1, .int .i64 b, .int .i64 p.2.2.1, .int .i64 r] 67 j v (by simpa using h)) (fun v hv => (List.all_eq_true.1 (show ([[.int .i64 u.1, .int .i64 b, .int .i64 p.2.2.1, .int .i64 r]].flatten).all (·.oneCell') = true from rfl)) v hv) (by have := hRl.out; unfold maxLen; omega) (by have := hRl.out; omega) ?_; intro a5 c5 w5 G5; have hb5 : Hid (w5.heap[y]? = w4.heap[y]?) := (G5.old (by simp; omega) (by simpa [Value.ownBlock] using hgy)).trans (Below.heap_alloc w4 _ _ ly4); have hb6 : Hid (w5.heap[y]? = _) := hb5.out.trans H3.out.1.blk; have hc5 := (cell_of_row w5 _ 2 _ _ _ hb6.out).trans (rfl : _ = some _); have hf5 : w5.frozen? ⟨y, 2, none⟩ = false := frozen_of_row _ _ _ _ _ hb6.out)
          all_goals
            go_wp2
            go_ret
            have own5 : ∀ q, Value.ownBlock (.slice a5 (R.length + 1) c5) = some q → q = gp ∨ w4.heap.size ≤ q := fun q hq' => by
              rcases G5.at_ q hq' with h | h
              · right; simp at h; omega
              · left; simpa [Value.ownBlock, eq_comm] using h
            have F5 : Fr (fun q => q = gp) w4 w5 := G5.fr (((Fr.refl _ w4).alloc _).drew) (fun q hq' _ => by simpa [Value.ownBlock, eq_comm] using hq')
            have FS : Fr (fun q => q = y) w5 (w5.setCell ⟨y, 2, none⟩ (.slice a5 (R.length + 1) c5)) := (Fr.refl (fun q => q = y) w5).setCell (p := ⟨y, 2, none⟩) (fun _ => rfl) _
            have F6 : Fr (fun q => q = gp ∨ q = y) w4 (w5.setCell ⟨y, 2, none⟩ (.slice a5 (R.length + 1) c5)) := (F5.mono (fun _ _ e => .inl e)).trans (FS.mono (fun _ _ e => .inr e))
            have h2 := H3.out.1
            have e3 : (putQ K.passes u.1 b p.2.2.1 r).map qRow = R ++ [[.int .i64 u.1, .int .i64 b, .int .i64 p.2.2.1, .int .i64 r]] := by
              rw [← O.out, List.map_append, HR.out]; rfl
            have SP := G5.sl.kept FS (fun q hq' e => by rcases own5 q hq' with h | h <;> omega)
            rw [← e3] at SP
            have RA : RefAt (w5.setCell ⟨y, 2, none⟩ (.slice a5 (R.length + 1) c5)) y { K with passes := putQ K.passes u.1 b p.2.2.1 r } (.slice (some ⟨g, 0, none⟩) K.threads.length c) (.slice a5 (R.length + 1) c5) vl :=
              ⟨heap_setCell_same w5 y 2 _ _ _ hb6.out, h2.th.kept F6 (fun q hq' e => e.elim (fun e => (h2.n4 q hq').1 (by rw [e]; rfl)) (fun e => h2.n1 (e ▸ hq'))), SP, h2.le.kept F6 (fun q hq' e => e.elim (fun e => h2.n5 gp rfl (by rw [← e]; exact hq')) (fun e => h2.n3 (e ▸ hq'))), h2.n1,
               fun h => by (rcases own5 _ h with h | h <;> omega), h2.n3, fun q hq' => ⟨fun h => by (rcases own5 _ h with e | e; exact (h2.n4 q hq').1 (by rw [e]; rfl); have := h2.th.lt hq'; omega), (h2.n4 q hq').2⟩, fun q hq' h => by (rcases own5 _ hq' with e | e; exact h2.n5 gp rfl (by rw [← e]; exact h); have := h2.le.lt h; omega)⟩
            have FF := ((Fr.of_below H1.out.2 (RefOwn y (.slice (some ⟨g, 0, none⟩) K.threads.length c) (.slice (some ⟨gp, 0, none⟩) K.passes.length cp) vl)).trans (Fr.of_below H3.out.2 _)).trans (F6.mono (fun q _ e => e.elim (fun e => .inr (.inr (.inl (by rw [e]; rfl)))) .inl))
            have OW : ∀ q, Value.ownBlock (.slice a5 (R.length + 1) c5) = some q → Value.ownBlock (.slice (some ⟨gp, 0, none⟩) K.passes.length cp) = some q ∨ w.heap.size ≤ q := fun q hq' => by
              rcases own5 q hq' with e | e
              · left; rw [e]; rfl
              · right; have := H1.out.2.size; omega
            first
              | exact ⟨.slice a5 (R.length + 1) c5, by rw [E.out]; rfl, by rw [E.out]; exact RA, FF, OW⟩
              | exact ⟨by rw [E.out]; rfl, .slice a5 (R.length + 1) c5, by rw [E.out]; exact RA, FF, OW⟩
        · have O := hid (putQ_ix p.2.2.1 r HH.out.2.2.2.2.2.1 hpi2 e1 e2)
          have hil2 : i2' < mp := by rw [← HM.out.2]; exact (List.getElem?_eq_some_iff.1 hpi2).1
          have hil2' : (i2' : Int) < (mp : Int) := by omega
          have r1 := H3.out.1.pa.row (i := i2') (r := qRow p2) (by rw [List.getElem?_map, hpi2]; rfl)
          have g0 : w4.cell? ⟨gp, i2' * 4, none⟩ = some (.int .i64 p2.1) := r1 0 _ rfl
          have g1 : w4.cell? ⟨gp, i2' * 4 + 1, none⟩ = some (.int .i64 p2.2.1) := r1 1 _ rfl
          have g2 : w4.cell? ⟨gp, i2' * 4 + 2, none⟩ = some (.int .i64 p2.2.2.1) := r1 2 _ rfl
          have g3 : w4.cell? ⟨gp, i2' * 4 + 3, none⟩ = some (.int .i64 p2.2.2.2) := r1 3 _ rfl
          have fz0 := H3.out.1.pa.fro (i2' * 4)
          have fz1 := H3.out.1.pa.fro (i2' * 4 + 1)
          have fz2 := H3.out.1.pa.fro (i2' * 4 + 2)
          have fz3 := H3.out.1.pa.fro (i2' * 4 + 3)
          have hgy : gp ≠ y := fun e => H3.out.1.n2 (by rw [e]; rfl)
          have hgx : gp ≠ w2.heap.size := by omega
          clear hix ef e1 e2 hpi2 r1
          go_wp2_with fail
          go_region
          all_goals
            go_wp2
            go_ret
            have F : Fr (fun q => q = gp) w4 ((((w4.setCell ⟨gp, i2' * 4, none⟩ (.int .i64 u.1)).setCell ⟨gp, i2' * 4 + 1, none⟩ (.int .i64 b)).setCell ⟨gp, i2' * 4 + 2, none⟩ (.int .i64 p.2.2.1)).setCell ⟨gp, i2' * 4 + 3, none⟩ (.int .i64 r)).drew := (((((Fr.refl (fun q => q = gp) w4).setCell (p := ⟨gp, i2' * 4, none⟩) (fun _ => rfl) _).setCell (p := ⟨gp, i2' * 4 + 1, none⟩) (fun _ => rfl) _).setCell (p := ⟨gp, i2' * 4 + 2, none⟩) (fun _ => rfl) _).setCell (p := ⟨gp, i2' * 4 + 3, none⟩) (fun _ => rfl) _).drew
            have h2 := H3.out.1
            have SP := (h2.pa.put4 i2' (by rw [List.length_map, HM.out.2]; exact hil2) (.int .i64 u.1) (.int .i64 b) (.int .i64 p.2.2.1) (.int .i64 r)).drew
            have e3 : (K.passes.map qRow).set i2' [.int .i64 u.1, .int .i64 b, .int .i64 p.2.2.1, .int .i64 r] = (putQ K.passes u.1 b p.2.2.1 r).map qRow := by
              rw [← O.out, List.map_set]; rfl
            rw [e3] at SP
            refine ⟨_, by rw [E.out]; rfl, ?_, ((Fr.of_below H1.out.2 _).trans (Fr.of_below H3.out.2 _)).trans (F.mono (fun q _ e => .inr (.inr (.inl (by rw [e]; rfl))))), fun k hk => .inl hk⟩
            rw [E.out]
            exact ⟨(F.block y ly4 (fun e => hgy e.symm)).trans h2.blk, h2.th.kept F (fun q hq' e => (h2.n4 q hq').1 (by rw [e]; rfl)), SP, h2.le.kept F (fun q hq' e => h2.n5 gp rfl (by rw [← e]; exact hq')), h2.n1, h2.n2, h2.n3, h2.n4, h2.n5⟩
  · have E := hid (show K.derive a b r = (3, K) by rw [RK.derive, if_neg f])
    have f4 : ¬ (inI a 0 5 = true) ∨ ¬ (inI b 0 5 = true) ∨ ¬ (inI r 1 3 = true) := by
      by_cases g1 : inI a 0 5 = true
      · by_cases g2 : inI b 0 5 = true
        · exact .inr (.inr (fun g3 => f ⟨g1, g2, g3⟩))
        · exact .inr (.inl g2)
      · exact .inl g1
    clear f
    rcases f4 with f4 | f4 | f4
    · have f5 : inI a 0 5 = false := by simpa using f4
      clear f4
      go_wp2_with (go_at_call 61; refine (in_any _ _ _ _).mono ?_; rintro e w2 ⟨rfl, rfl⟩)
      go_ret
      exact ⟨_, by rw [E.out]; rfl, by rw [E.out]; exact H1.out.1, Fr.of_below H1.out.2 _, fun k hk => .inl hk⟩
    · have f5 : inI b 0 5 = false := by simpa using f4
      clear f4
      cases f6 : inI a 0 5 <;>
      · go_wp2_with (go_at_call 61; refine (in_any _ _ _ _).mono ?_; rintro e w2 ⟨rfl, rfl⟩)
        go_ret
        exact ⟨_, by rw [E.out]; rfl, by rw [E.out]; exact H1.out.1, Fr.of_below H1.out.2 _, fun k hk => .inl hk⟩
    · have f5 : inI r 1 3 = false := by simpa using f4
      clear f4
      cases f6 : inI a 0 5 <;> cases f7 : inI b 0 5 <;>
      · go_wp2_with (go_at_call 61; refine (in_any _ _ _ _).mono ?_; rintro e w2 ⟨rfl, rfl⟩)
        go_ret
        exact ⟨_, by rw [E.out]; rfl, by rw [E.out]; exact H1.out.1, Fr.of_below H1.out.2 _, fun k hk => .inl hk⟩
end Go.Proofs.YtgiiegppaleldaaGreatDoor
