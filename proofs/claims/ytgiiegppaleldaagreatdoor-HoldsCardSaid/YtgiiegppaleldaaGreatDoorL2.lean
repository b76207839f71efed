import Derived.Test.YtgiiegppaleldaaGreatDoorL1
import Derived.Deep.WholeRow
/- Lists that came in, and copies of them: no program is named here. -/
namespace Go.Proofs.YtgiiegppaleldaaGreatDoor
open Go.RowKit

/-- A slice that can be read, row by row, wherever it lies. -/
structure Inl (w : World) (size : Nat) (v : Value) (rows : List (List Value)) : Prop where
  len : ∀ r ∈ rows, r.length = size
  one : ∀ r ∈ rows, ∀ u ∈ r, u.oneCell' = true
  form : ∃ a c, v = .slice a rows.length c ∧ rows.length ≤ maxLen ∧ (rows = [] ∨ ∃ b off, a = some ⟨b, off, none⟩ ∧ w.rangeAt b off rows.flatten)

theorem Inl.slice {w : World} {size : Nat} {v : Value} {rows : List (List Value)} (h : Inl w size v rows) : ∃ a c, v = .slice a rows.length c := by
  obtain ⟨a, c, h, _⟩ := h.form; exact ⟨a, c, h⟩

theorem rangeAt_cells {w w' : World} {b off : Nat} {cs : List Value} (h : w.rangeAt b off cs) (he : w'.heap[b]? = w.heap[b]?) : w'.rangeAt b off cs := fun j v hv => by
  rw [World.cell?_of_block (w := w) (a := ⟨b, off + j, none⟩) he]; exact h j v hv

/-- The blocks in which such a list lies. -/
def inBlock : Value → Option Nat
  | .slice (some a) (_ + 1) _ => some a.block
  | _ => none

theorem Inl.kept {w w' : World} {size : Nat} {v : Value} {rows : List (List Value)} (h : Inl w size v rows) (hs : 0 < size) {S : Nat → Prop} (hf : Fr S w w') (hn : ∀ k, inBlock v = some k → ¬ S k) : Inl w' size v rows := by
  obtain ⟨a, c, rfl, hm, hr⟩ := h.form
  refine ⟨h.len, h.one, a, c, rfl, hm, ?_⟩
  rcases hr with rfl | ⟨b, off, rfl, hr⟩
  · exact .inl rfl
  · cases rows with
    | nil => exact .inl rfl
    | cons r rs =>
      refine .inr ⟨b, off, rfl, ?_⟩
      have hlr := h.len r (by simp)
      have hlt : b < w.heap.size := by
        cases r with
        | nil => simp at hlr; omega
        | cons u t => exact block_lt_of_cell (a := ⟨b, off + 0, none⟩) (hr 0 u (by simp))
      exact rangeAt_cells hr (hf.block b hlt (hn b rfl))

theorem Inl.below {w w' : World} {size : Nat} {v : Value} {rows : List (List Value)} (h : Inl w size v rows) (hs : 0 < size) (hb : Below w.heap.size w w') : Inl w' size v rows :=
  h.kept hs (Fr.of_below hb (fun _ => False)) (fun _ _ h => h)
theorem Inl.alloc {w : World} {size : Nat} {v : Value} {rows : List (List Value)} (h : Inl w size v rows) (hs : 0 < size) (o : Obj) : Inl (w.alloc o) size v rows :=
  h.kept hs ((Fr.refl (fun _ => False) w).alloc o) (fun _ _ h => h)
theorem Inl.drew {w : World} {size : Nat} {v : Value} {rows : List (List Value)} (h : Inl w size v rows) : Inl w.drew size v rows := ⟨h.len, h.one, h.form⟩

theorem Inl.row {w : World} {size : Nat} {a : Option Addr} {n c : Nat} {rows : List (List Value)} (h : Inl w size (.slice a n c) rows) {k : Nat} {r : List Value} (hk : rows[k]? = some r) : ∃ b off, a = some ⟨b, off, none⟩ ∧ w.rangeAt b (off + k * size) r := by
  obtain ⟨a', c', e, hm, hr⟩ := h.form
  simp only [Value.slice.injEq] at e
  obtain ⟨rfl, rfl, rfl⟩ := e
  obtain ⟨hi, e⟩ := List.getElem?_eq_some_iff.1 hk
  rcases hr with rfl | ⟨b, off, rfl, hr⟩
  · simp at hi
  · refine ⟨b, off, rfl, fun j v hv => ?_⟩
    have hl := h.len r (by rw [← e]; exact List.getElem_mem hi)
    have hj : j < size := by have := (List.getElem?_eq_some_iff.1 hv).1; omega
    have := hr (k * size + j) v (by rw [flatten_get rows k j h.len hi hj, e]; exact hv)
    rwa [← Nat.add_assoc] at this

/-- A list of its own is one that can be read. -/
theorem Sl.inl {w : World} {e : TypeId} {size g n cap : Nat} {rows : List (List Value)} (h : Sl w e size (.slice (some ⟨g, 0, none⟩) n cap) rows) (h1 : ∀ r ∈ rows, ∀ u ∈ r, u.oneCell' = true) (k c : Nat) (hk : k ≤ rows.length) :
    Inl w size (.slice (some ⟨g, 0, none⟩) k c) (rows.take k) := by
  have hn := h.n_eq
  subst hn
  have hlen : (rows.take k).length = k := by simp; omega
  refine ⟨fun r hr => h.len r (List.mem_of_mem_take hr), fun r hr => h1 r (List.mem_of_mem_take hr), some ⟨g, 0, none⟩, c, by rw [hlen], ?_, ?_⟩
  · rcases h.form with ⟨hx, _⟩ | ⟨g', cap', hx, h2, h3, _⟩
    · simp at hx
    · omega
  · refine .inr ⟨g, 0, rfl, fun j v hv => ?_⟩
    have hj : j < (rows.take k).flatten.length := (List.getElem?_eq_some_iff.1 hv).1
    have hfl := flatten_len (rows.take k) (fun r hr => h.len r (List.mem_of_mem_take hr))
    rw [hlen] at hfl
    have hle : k * size ≤ rows.length * size := Nat.mul_le_mul_right _ hk
    rw [Nat.zero_add, h.own.cellAt j (by omega)]
    rw [← hv]
    have e : rows.flatten = (rows.take k).flatten ++ (rows.drop k).flatten := by rw [← List.flatten_append, List.take_append_drop]
    rw [e, List.getElem?_append_left hj]

theorem flatten_setrow {s : Nat} : ∀ (rows : List (List Value)) (i : Nat) (r : List Value), (∀ x ∈ rows, x.length = s) → r.length = s → i < rows.length → setAt rows.flatten (i * s) r = (rows.set i r).flatten
  | [], i, _, _, _, hi => by simp at hi
  | x :: rs, 0, r, h, hr, _ => by
    have e : x.length = s := h x (by simp)
    rw [setAt_eq _ _ _ (by simp [e, hr])]
    simp [hr, ← e]
  | x :: rs, i + 1, r, h, hr, hi => by
    have e : x.length = s := h x (by simp)
    have hi' : i < rs.length := by simpa using hi
    have hrs : ∀ y ∈ rs, y.length = s := fun y hy => h y (by simp [hy])
    have hfl := flatten_len rs hrs
    have hle : i * s + s ≤ rs.length * s := by have := Nat.mul_le_mul_right s (show i + 1 ≤ rs.length from hi'); rwa [Nat.succ_mul] at this
    have ih := flatten_setrow rs i r hrs hr hi'
    rw [setAt_eq _ _ _ (by rw [hr]; omega)] at ih
    rw [setAt_eq _ _ _ (by rw [List.flatten_cons, List.length_append, hr, Nat.succ_mul]; omega)]
    rw [List.set_cons_succ, List.flatten_cons, List.flatten_cons, ← ih]
    rw [show (i + 1) * s = x.length + i * s by rw [Nat.succ_mul]; omega, List.take_append, List.drop_append]
    rw [List.take_of_length_le (by omega), List.drop_of_length_le (show x.length ≤ x.length + i * s + r.length by omega)]
    rw [show x.length + i * s - x.length = i * s by omega, show x.length + i * s + r.length - x.length = i * s + r.length by omega]
    simp

theorem Sl.setRow {w : World} {e : TypeId} {size g n cap : Nat} {rows : List (List Value)} (h : Sl w e size (.slice (some ⟨g, 0, none⟩) n cap) rows) (i : Nat) (r : List Value) (hi : i < rows.length) (hr : r.length = size) :
    Sl (w.setCells g (i * size) r) e size (.slice (some ⟨g, 0, none⟩) n cap) (rows.set i r) ∧ w.grownBy (w.setCells g (i * size) r) (some g) := by
  have hn := h.n_eq
  subst hn
  have h1 := setCells_owns r (i * size) w _ h.own
  rw [flatten_setrow rows i r h.len hr hi] at h1
  refine ⟨⟨by simpa using h1.1, ?_⟩, h1.2⟩
  intro x hx
  rcases List.mem_or_eq_of_mem_set hx with hx | rfl
  · exact h.len x hx
  · exact hr

theorem Sl.there {w : World} {e : TypeId} {size g n cap : Nat} {rows : List (List Value)} (h : Sl w e size (.slice (some ⟨g, 0, none⟩) n cap) rows) (i : Nat) (hi : i < rows.length) : w.there g (i * size) size := by
  have hn := h.n_eq
  subst hn
  exact owns_there h.own _ _ (by have := Nat.mul_le_mul_right size (show i + 1 ≤ rows.length from hi); rw [Nat.succ_mul] at this; omega)

section
variable {P : Program} (w : World)

theorem run_copy_sl (dT sT ty e : TypeId) (i : TypeInfo) (size : Nat) (hu : P.underlying dT = some (.slice e)) (hi : P.info? e = some i) (hsize : i.size = size)
    (g n cap : Nat) (drows : List (List Value)) (hd : Sl w e size (.slice (some ⟨g, 0, none⟩) n cap) drows) (a : Option Addr) (m c : Nat) (rows : List (List Value)) (hs : Inl w size (.slice a m c) rows) (hle : rows.length ≤ drows.length) :
    ∃ w', (Builtin.copy_ #[dT, sT] ty #[.slice (some ⟨g, 0, none⟩) n cap, .slice a m c]).run P w = .ok (goInt rows.length) w' ∧ Sl w' e size (.slice (some ⟨g, 0, none⟩) n cap) (rows ++ drows.drop rows.length) ∧ w.grownBy w' (some g) := by
  subst hsize
  have hn := hd.n_eq
  subst hn
  obtain ⟨a', c', ev, hm, hr⟩ := hs.form
  simp only [Value.slice.injEq] at ev
  obtain ⟨rfl, rfl, rfl⟩ := ev
  have hmin : Nat.min rows.length drows.length = rows.length := Nat.min_eq_left hle
  rcases hr with rfl | ⟨b, off, rfl, hr⟩
  · refine ⟨w, ?_, by simpa using hd, ⟨rfl, rfl, rfl, Nat.le_refl _, fun _ _ _ => rfl⟩⟩
    cases a <;> simp [Builtin.copy_, run_underlying hu, Builtin.lenOf, Builtin.firstCells, sizeOf, typeInfo, hi, storeCells, loadCells, loadCellsFrom]
  · have hfl := flatten_len rows hs.len
    have hl := run_loadCells_list (P := P) w ⟨b, off, none⟩ rows.flatten (fun j v hv => by rw [Addr.add_mid]; exact hr j v hv)
    rcases hd.own.2 with ⟨hx, _⟩ | ⟨g', cap', cur, hx, _, hg, h1, h2, h3, h4⟩
    · simp at hx
    · simp only [Value.slice.injEq, Option.some.injEq, Addr.mk.injEq, and_true, true_and] at hx
      obtain ⟨rfl, rfl⟩ := hx
      have h1c : ∀ v ∈ rows.flatten, v.oneCell' = true := fun v hv => by
        obtain ⟨r, hr, hv⟩ := List.mem_flatten.1 hv
        exact hs.one r hr v hv
      have hdl := flatten_len drows hd.len
      have hmul : rows.length * i.size ≤ drows.length * i.size := Nat.mul_le_mul_right _ hle
      have hmul2 : drows.length * i.size ≤ cap * i.size := Nat.mul_le_mul_right _ h1
      have hst := run_storeCells_at P g 0 e rows.flatten 0 cur w hg (by simp only [Nat.zero_add]; omega) h1c
      simp only [Nat.zero_add, List.take_zero, List.nil_append] at hst
      refine ⟨w.setRow g (rows.flatten ++ List.drop rows.flatten.length cur.toList).toArray, ?_, ⟨⟨?_, .inr ⟨g, cap, _, ?_, Nat.zero_le _, setRow_heap w g cur _ e _ hg, ?_, h2, ?_, ?_⟩⟩, ?_⟩, grown_setRow w g _⟩
      · clear h4
        generalize rows.flatten = fs at *
        rw [hfl] at hl
        simp [Builtin.copy_, run_underlying hu, Builtin.lenOf, Builtin.firstCells, sizeOf, typeInfo, hi, hmin, hl, hst]
      · rw [flatten_len _ (fun r hr => by
          rcases List.mem_append.1 hr with h | h
          · exact hs.len r h
          · exact hd.len r (List.mem_of_mem_drop h))]
      · congr 1; simp; omega
      · simp; omega
      · generalize rows.flatten = fs at *
        simp; rw [h3]; omega
      · have e1 : (rows ++ drows.drop rows.length).length = drows.length := by simp; omega
        rw [e1, List.flatten_append]
        have e2 : (drows.drop rows.length).flatten = drows.flatten.drop (rows.length * i.size) := by
          have e3 : drows.flatten = (drows.take rows.length).flatten ++ (drows.drop rows.length).flatten := by rw [← List.flatten_append, List.take_append_drop]
          rw [e3, List.drop_left' (by rw [flatten_len _ (fun r hr => hd.len r (List.mem_of_mem_take hr))]; congr 1; simp; omega)]
        rw [e2, ← h4]
        show List.take _ (rows.flatten ++ List.drop rows.flatten.length cur.toList) = _
        rw [List.take_append, hfl]
        rw [List.take_of_length_le (by rw [hfl]; exact hmul)]
        congr 1
        rw [List.drop_take]
      · intro r hr
        rcases List.mem_append.1 hr with h | h
        · exact hs.len r h
        · exact hd.len r (List.mem_of_mem_drop h)

theorem wpList_copy_sl {ops : Array Oper} {rest : List Oper} {o : Oper} {ac : Act} {Q : Exit → Act → World → Prop} (hgd : o.guard = none) (d s : Operand) (dT sT : TypeId)
    (ho : o.op = .call { callee := .builtin .copy, args := #[d, s], argTypes := #[dT, sT] }) (e : TypeId) (i : TypeInfo) (size : Nat) (hu : P.underlying dT = some (.slice e)) (hi : P.info? e = some i) (hsize : i.size = size)
    (g n cap : Nat) (drows : List (List Value)) (hdv : ac.eval d = .slice (some ⟨g, 0, none⟩) n cap) (hd : Sl w e size (.slice (some ⟨g, 0, none⟩) n cap) drows) (a : Option Addr) (m c : Nat) (rows : List (List Value)) (hsv : ac.eval s = .slice a m c) (hs : Inl w size (.slice a m c) rows) (hle : rows.length ≤ drows.length)
    (h : ∀ w', Hid (Sl w' e size (.slice (some ⟨g, 0, none⟩) n cap) (rows ++ drows.drop rows.length) ∧ w.grownBy w' (some g)) → wpList P ops Q rest (ac.put o.dst (goInt rows.length)) w') : wpList P ops Q (o :: rest) ac w := by
  obtain ⟨w', hr, h1, h2⟩ := run_copy_sl (P := P) w dT sT o.type e i size hu hi hsize g n cap drows hd a m c rows hs hle
  refine wpList_plain hgd fun K hK => ?_
  unfold Oper.wp
  simp [execOp, ho, resolve, invoke, builtin, hdv, hsv, hr, Result.andThen]
  exact hK _ _ (h w' ⟨h1, h2⟩)
end

section
variable {P : Program} (w : World)

theorem run_append_inl (t ty e : TypeId) (i : TypeInfo) (z : Value) (size bytes : Nat) (ht : P.underlying t = some (.slice e)) (hi : P.info? e = some i) (hz : i.zero = some z)
    (hsize : i.size = size) (hby : i.bytes = bytes) (hzs : z.cells.size = size) (hsz : 0 < size) (a : Option Addr) (m c : Nat) (rows : List (List Value)) (hs : Inl w size (.slice a m c) rows) (hbytes : rows.length * bytes ≤ 140737488355328) :
    ∃ a' c' w', (Builtin.append_ #[t, t] ty #[.slice none 0 0, .slice a m c]).run P w = .ok (.slice a' rows.length c') w' ∧ Grew e size (.slice none 0 0) w (.slice a' rows.length c') rows w' := by
  obtain ⟨a0, c0, ev, hm, hr⟩ := hs.form
  simp only [Value.slice.injEq] at ev
  obtain ⟨rfl, rfl, rfl⟩ := ev
  rcases hr with rfl | ⟨b, off, rfl, hr⟩
  · refine ⟨none, 0, w, ?_, Sl.nil w e size, ⟨rfl, rfl, rfl, Nat.le_refl _, fun _ _ _ => rfl⟩, fun k hk => by simp [Value.ownBlock] at hk⟩
    cases a <;> simp [Builtin.append_, run_underlying ht, sizeOf, typeInfo, hi, Builtin.lenOf, Builtin.firstCells, loadCells, loadCellsFrom]
  · cases hrows : rows with
    | nil =>
      subst hrows
      refine ⟨none, 0, w, ?_, Sl.nil w e size, ⟨rfl, rfl, rfl, Nat.le_refl _, fun _ _ _ => rfl⟩, fun k hk => by simp [Value.ownBlock] at hk⟩
      simp [Builtin.append_, run_underlying ht, sizeOf, typeInfo, hi, Builtin.lenOf, Builtin.firstCells, loadCells, loadCellsFrom]
    | cons r rs =>
      have hpos : 0 < rows.length := by rw [hrows]; simp
      obtain ⟨a', c', w', h1, h2⟩ := run_append_sl (P := P) w t ty e i z size bytes ht hi hz hsize hby hzs hsz (.slice none 0 0) [] (Sl.nil w e size) ⟨b, off, none⟩ rows.length c rows rfl hpos hs.len
        (fun j u hu => by rw [Addr.add_mid]; exact hr j u hu) (fun u hu => by obtain ⟨x, hx, hux⟩ := List.mem_flatten.1 hu; exact hs.one x hx u hux) (by simpa using hm) (by simpa using hbytes)
      rw [← hrows]
      simp only [List.length_nil, Nat.zero_add, List.nil_append] at h1 h2
      exact ⟨a', c', w', h1, h2⟩

theorem step_append_inl {ops : Array Oper} {o : Oper} {ac : Act} {K : Act → World → Prop} {Q : Exit → Act → World → Prop} {E : Prop} (hgd : o.guard = none) (s x : Operand) (t : TypeId)
    (ho : o.op = .call { callee := .builtin .append, args := #[s, x], argTypes := #[t, t] })
    (e : TypeId) (i : TypeInfo) (z : Value) (size bytes : Nat) (ht : P.underlying t = some (.slice e)) (hi : P.info? e = some i) (hz : i.zero = some z)
    (hsize : i.size = size) (hby : i.bytes = bytes) (hzs : z.cells.size = size) (hsz : 0 < size) (hsv : ac.eval s = .slice none 0 0) (a : Option Addr) (m c : Nat) (rows : List (List Value)) (hxv : ac.eval x = .slice a m c) (hs : Inl w size (.slice a m c) rows) (hbytes : rows.length * bytes ≤ 140737488355328)
    (h : ∀ a' c' w', Grew e size (.slice none 0 0) w (.slice a' rows.length c') rows w' → K (ac.put o.dst (.slice a' rows.length c')) w') :
    if Region.wanted o (yielded ops ac.tmps) = true then Oper.wp P o ac w K Q else E := by
  obtain ⟨a', c', w', hr, hG⟩ := run_append_inl (P := P) w t o.type e i z size bytes ht hi hz hsize hby hzs hsz a m c rows hs hbytes
  have hw : Region.wanted o (yielded ops ac.tmps) = true := by simp [Region.wanted, hgd]
  rw [if_pos hw]
  unfold Oper.wp
  simp [execOp, ho, resolve, invoke, builtin, hsv, hxv, hr, Result.andThen]
  exact h a' c' w' hG
end

theorem wpList_store_new {P : Program} {ops : Array Oper} {rest : List Oper} {o : Oper} {a : Act} {Q : Exit → Act → World → Prop} (hgd : o.guard = none) (ty : TypeId) (x y : Operand) (ho : o.op = .store ty x y)
    (w0 : World) (old cells : Array Value) (t : TypeId) (hx : a.eval x = .pointer (some ⟨w0.heap.size, 0, none⟩)) (hy : a.eval y = .agg cells) (hi : (P.info? ty).map (·.size) = some cells.size) (hold : old.size = cells.size) (h1 : cells.all (·.oneCell') = true)
    (h : wpList P ops Q rest (a.put o.dst undef) (w0.alloc (.cells cells t))) : wpList P ops Q (o :: rest) a (w0.alloc (.cells old t)) := by
  refine wpList_store_row hgd ty x y ho w0.heap.size cells hx hy t old (heap_alloc_new w0 _) hi hold h1 ?_
  rw [World.setRow_alloc_new]
  exact h

theorem results_cell2 {P : Program} {fn : Func} {p q : Tmp} {ty ty2 : TypeId} (h : fn.results = #[.cell p ty, .cell q ty2]) (tmps : Array Value) (w : World) (g g2 : Nat) (t t2 : TypeId) (cs cs2 : Array Value) (fr fr2 : Nat × Nat) (d d2 : TypeDesc)
    (hp : tmps.getD p undef = .pointer (some ⟨g, 0, none⟩)) (hg : w.heap[g]? = some (.cells cs t fr)) (hu : P.underlying ty = some d) (hd : (match d with | .struct _ | .array _ _ => true | _ => false) = true) (hi : (P.info? ty).map (·.size) = some cs.size)
    (hp2 : tmps.getD q undef = .pointer (some ⟨g2, 0, none⟩)) (hg2 : w.heap[g2]? = some (.cells cs2 t2 fr2)) (hu2 : P.underlying ty2 = some d2) (hd2 : (match d2 with | .struct _ | .array _ _ => true | _ => false) = true) (hi2 : (P.info? ty2).map (·.size) = some cs2.size) :
    (results fn tmps).run P w = .ok (.tuple #[.agg cs, .agg cs2]) w := by
  have hp' : tmps[p]?.getD undef = .pointer (some ⟨g, 0, none⟩) := by simpa using hp
  have hq' : tmps[q]?.getD undef = .pointer (some ⟨g2, 0, none⟩) := by simpa using hp2
  simp [results, h, hp', hq', asAddr, run_loadVar_row w g t ty cs fr d hg hu hd hi, run_loadVar_row w g2 t2 ty2 cs2 fr2 d2 hg2 hu2 hd2 hi2]

theorem set4 {w : World} {g : Nat} {a0 a1 a2 a3 b0 b1 b2 b3 : Value} {t : TypeId} (h : w.heap[g]? = some (.cells #[a0, a1, a2, a3] t (0, 0))) :
    ((((w.setCell ⟨g, 0, none⟩ b0).setCell ⟨g, 1, none⟩ b1).setCell ⟨g, 2, none⟩ b2).setCell ⟨g, 3, none⟩ b3).heap[g]? = some (.cells #[b0, b1, b2, b3] t (0, 0)) :=
  heap_setCell_same _ g 3 _ t b3 (heap_setCell_same _ g 2 _ t b2 (heap_setCell_same _ g 1 _ t b1 (heap_setCell_same w g 0 _ t b0 h)))
theorem set3 {w : World} {g : Nat} {a0 a1 a2 b0 b1 b2 : Value} {t : TypeId} (h : w.heap[g]? = some (.cells #[a0, a1, a2] t (0, 0))) :
    (((w.setCell ⟨g, 0, none⟩ b0).setCell ⟨g, 1, none⟩ b1).setCell ⟨g, 2, none⟩ b2).heap[g]? = some (.cells #[b0, b1, b2] t (0, 0)) :=
  heap_setCell_same _ g 2 _ t b2 (heap_setCell_same _ g 1 _ t b1 (heap_setCell_same w g 0 _ t b0 h))

theorem lent_end {w : World} {r1 r2 : Nat} {a0 a1 a2 a3 b0 b1 b2 b3 c0 c1 c2 e0 e1 e2 : Value} {t t2 : TypeId} {O : Obj} (h1 : w.heap[r1]? = some (.cells #[a0, a1, a2, a3] t (0, 0))) (h2 : w.heap[r2]? = some (.cells #[c0, c1, c2] t2 (0, 0))) (hne : r1 ≠ r2) :
    (((((((((w.setCell ⟨r1, 0, none⟩ b0).setCell ⟨r1, 1, none⟩ b1).setCell ⟨r1, 2, none⟩ b2).setCell ⟨r1, 3, none⟩ b3).setCell ⟨r2, 0, none⟩ e0).setCell ⟨r2, 1, none⟩ e1).setCell ⟨r2, 2, none⟩ e2).alloc O).drew).heap[r1]? = some (.cells #[b0, b1, b2, b3] t (0, 0)) ∧
    (((((((((w.setCell ⟨r1, 0, none⟩ b0).setCell ⟨r1, 1, none⟩ b1).setCell ⟨r1, 2, none⟩ b2).setCell ⟨r1, 3, none⟩ b3).setCell ⟨r2, 0, none⟩ e0).setCell ⟨r2, 1, none⟩ e1).setCell ⟨r2, 2, none⟩ e2).alloc O).drew).heap[r2]? = some (.cells #[e0, e1, e2] t2 (0, 0)) ∧
    Fr (fun q => q = r1 ∨ q = r2) w (((((((((w.setCell ⟨r1, 0, none⟩ b0).setCell ⟨r1, 1, none⟩ b1).setCell ⟨r1, 2, none⟩ b2).setCell ⟨r1, 3, none⟩ b3).setCell ⟨r2, 0, none⟩ e0).setCell ⟨r2, 1, none⟩ e1).setCell ⟨r2, 2, none⟩ e2).alloc O).drew) := by
  have F1 : Fr (fun q => q = r1) w ((((w.setCell ⟨r1, 0, none⟩ b0).setCell ⟨r1, 1, none⟩ b1).setCell ⟨r1, 2, none⟩ b2).setCell ⟨r1, 3, none⟩ b3) :=
    ((((Fr.refl (fun q => q = r1) w).setCell (fun _ => rfl) _).setCell (fun _ => rfl) _).setCell (fun _ => rfl) _).setCell (fun _ => rfl) _
  generalize hu : ((((w.setCell ⟨r1, 0, none⟩ b0).setCell ⟨r1, 1, none⟩ b1).setCell ⟨r1, 2, none⟩ b2).setCell ⟨r1, 3, none⟩ b3) = u at *
  have g1 : u.heap[r1]? = some (.cells #[b0, b1, b2, b3] t (0, 0)) := by rw [← hu]; exact set4 h1
  have l2 := (Array.getElem?_eq_some_iff.1 h2).1
  have g2 : u.heap[r2]? = some (.cells #[c0, c1, c2] t2 (0, 0)) := (F1.block r2 l2 (fun h => hne h.symm)).trans h2
  have F2 : Fr (fun q => q = r2) u (((u.setCell ⟨r2, 0, none⟩ e0).setCell ⟨r2, 1, none⟩ e1).setCell ⟨r2, 2, none⟩ e2) :=
    (((Fr.refl (fun q => q = r2) u).setCell (fun _ => rfl) _).setCell (fun _ => rfl) _).setCell (fun _ => rfl) _
  generalize hv : (((u.setCell ⟨r2, 0, none⟩ e0).setCell ⟨r2, 1, none⟩ e1).setCell ⟨r2, 2, none⟩ e2) = v at *
  have k2 : v.heap[r2]? = some (.cells #[e0, e1, e2] t2 (0, 0)) := by rw [← hv]; exact set3 g2
  have k1 : v.heap[r1]? = some (.cells #[b0, b1, b2, b3] t (0, 0)) := (F2.block r1 (Array.getElem?_eq_some_iff.1 g1).1 hne).trans g1
  refine ⟨(Below.heap_alloc v O r1 (Array.getElem?_eq_some_iff.1 k1).1).trans k1, (Below.heap_alloc v O r2 (Array.getElem?_eq_some_iff.1 k2).1).trans k2, ?_⟩
  exact (((F1.mono (fun _ _ h => .inl h)).trans (F2.mono (fun _ _ h => .inr h))).alloc O).drew

end Go.Proofs.YtgiiegppaleldaaGreatDoor

/- Colours of blocks: no program is named here. -/
namespace Go.Proofs.YtgiiegppaleldaaGreatDoor
open Go.RowKit

/-- p holds, whatever is done to blocks of other colours than c. -/
def Loc (o : Nat → Nat) (c : Nat) (p : World → Prop) (w : World) : Prop :=
  ∀ w' T, Fr T w w' → (∀ k, k < w.heap.size → T k → o k ≠ c) → p w'

theorem Fr.join {S T : Nat → Prop} {a b c : World} (h : Fr S a b) (k : Fr T b c) : Fr (fun x => S x ∨ T x) a c :=
  (h.mono (fun _ _ h => .inl h)).trans (k.mono (fun _ _ h => .inr h))

theorem Loc.now {o : Nat → Nat} {c : Nat} {p : World → Prop} {w : World} (h : Loc o c p w) : p w := h w (fun _ => False) (Fr.refl _ w) (fun _ _ h => h.elim)

theorem Loc.kept {o o' : Nat → Nat} {c : Nat} {p : World → Prop} {w w' : World} (h : Loc o c p w) {T : Nat → Prop} (hf : Fr T w w') (ht : ∀ k, k < w.heap.size → T k → o k ≠ c) (ho : ∀ k, k < w.heap.size → o k = c → o' k = c) : Loc o' c p w' := by
  intro w'' T' hf' ht'
  refine h w'' _ (hf.join hf') ?_
  rintro k hk (h1 | h1)
  · exact ht k hk h1
  · exact fun e => ht' k (Nat.lt_of_lt_of_le hk hf.size) h1 (ho k hk e)

theorem Loc.mono {o : Nat → Nat} {c : Nat} {p q : World → Prop} {w : World} (h : Loc o c p w) (hq : ∀ w, p w → q w) : Loc o c q w := fun w' T f t => hq _ (h w' T f t)
theorem Loc.and {o : Nat → Nat} {c : Nat} {p q : World → Prop} {w : World} (h : Loc o c p w) (k : Loc o c q w) : Loc o c (fun w => p w ∧ q w) w := fun w' T f t => ⟨h w' T f t, k w' T f t⟩

theorem Loc.sl {o : Nat → Nat} {c : Nat} {w : World} {e : TypeId} {size : Nat} {v : Value} {rows : List (List Value)} (h : Sl w e size v rows) (hv : ∀ k, v.ownBlock = some k → o k = c) : Loc o c (fun w => Sl w e size v rows) w :=
  fun _ _ f t => h.kept f (fun k hk ht => t k (h.lt hk) ht (hv k hk))

theorem Loc.heap {o : Nat → Nat} {c : Nat} {w : World} {b : Nat} {x : Obj} (h : w.heap[b]? = some x) (hv : o b = c) : Loc o c (fun w => w.heap[b]? = some x) w :=
  fun _ _ f t => (f.block b (Array.getElem?_eq_some_iff.1 h).1 (fun ht => t b (Array.getElem?_eq_some_iff.1 h).1 ht hv)).trans h

theorem Loc.marked {o : Nat → Nat} {c : Nat} {w : World} {e : TypeId} {P : List Value} {v : Value} (h : Marked w e P v) (hv : ∀ k, v.ownBlock = some k → o k = c) : Loc o c (fun w => Marked w e P v) w :=
  fun _ _ f t => h.kept f (fun k hk ht => t k (h.lt hk) ht (hv k hk))

theorem Inl.lt {w : World} {size : Nat} {v : Value} {rows : List (List Value)} (h : Inl w size v rows) (hs : 0 < size) (hr : rows ≠ []) {k : Nat} (hk : inBlock v = some k) : k < w.heap.size := by
  obtain ⟨a, c, rfl, hm, hr'⟩ := h.form
  rcases hr' with rfl | ⟨b, off, rfl, hra⟩
  · exact absurd rfl hr
  · cases rows with
    | nil => exact absurd rfl hr
    | cons r rs =>
      simp only [List.length_cons, inBlock, Option.some.injEq] at hk
      subst hk
      have hlr := h.len r (by simp)
      cases r with
      | nil => simp at hlr; omega
      | cons u t => exact block_lt_of_cell (a := ⟨b, off + 0, none⟩) (hra 0 u (by simp))

/-- An argument's list stays, if only blocks of other colours turn (an empty one always does). -/
theorem Loc.inl {o : Nat → Nat} {c : Nat} {w : World} {size : Nat} {v : Value} {rows : List (List Value)} (h : Inl w size v rows) (hs : 0 < size) (hv : ∀ k, inBlock v = some k → o k = c) : Loc o c (fun w => Inl w size v rows) w := by
  intro w' T f t
  by_cases hr : rows = []
  · subst hr
    obtain ⟨a, c, rfl, hm, hr'⟩ := h.form
    exact ⟨h.len, h.one, a, c, rfl, hm, .inl rfl⟩
  · exact h.kept hs f (fun k hk ht => t k (h.lt hs hr hk) ht (hv k hk))

end Go.Proofs.YtgiiegppaleldaaGreatDoor
